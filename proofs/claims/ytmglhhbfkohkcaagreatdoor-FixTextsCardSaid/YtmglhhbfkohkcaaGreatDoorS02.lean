/- Parse of the specification. Its condition: the text is not longer than a million bytes. -/
import Derived.Test.YtmglhhbfkohkcaaGreatDoorS01
import Derived.OwnWalk
import Derived.Maps.AppendAt
import Derived.Deep.LoopGhost
import Derived.Deep.RegionHeld
import Derived.Laws.Concat
import Derived.Laws.Closers25b
import Derived.Test.YtmglhhbfkohkcaaGreatDoorR01
import Derived.Test.YtmglhhbfkohkcaaGreatDoorR00
import Derived.Test.YtmglhhbfkohkcaaGreatDoorR03
import Derived.Test.YtmglhhbfkohkcaaGreatDoorR04
import Derived.Deep.RegionHeldLaw
import Derived.Test.YtmglhhbfkohkcaaGreatDoorQ98
set_option linter.unusedVariables false
set_option linter.unusedSimpArgs false
set_option linter.constructorNameAsVariable false
namespace Go.Proofs.YtmglhhbfkohkcaaGreatDoor

section
open Go.RowKit Go.Lib

theorem Tryz.infoS : (Tryz.prog.info? 9).map (fun i => (i.zero, i.size, i.bytes)) = some (some (.string ⟨#[]⟩), 1, 16) := by kernel_rfl
abbrev strs (l : List ByteArray) : List Value := l.map Value.string
def OwnStrs (base : Nat) (w : World) (v : Value) (l : List ByteArray) : Prop := w.ownsRow base 9 1 v (strs l).length (strs l)
theorem OwnStrs.alloc {base : Nat} {w : World} {v : Value} {l : List ByteArray} (h : OwnStrs base w v l) (o : Obj) : OwnStrs base (w.alloc o) v l := World.ownsRow.alloc h o
theorem cell_str (w : World) (x : ByteArray) (t : TypeId) : ∀ (j : Nat) (u : Value), [Value.string x][j]? = some u → (w.alloc (.cells #[.string x] t)).cell? ((⟨w.heap.size, 0, none⟩ : Addr).add j) = some u := by
  intro j u h
  cases j with
  | zero => simp at h; subst h; simp [Addr.add]
  | succ j => simp at h
theorem own_str {base : Nat} {w : World} {v : Value} {l : List ByteArray} {x : ByteArray} (h : w.ownsRow base 9 1 v (l.length + 1) (strs l ++ [Value.string x])) : OwnStrs base w v (l ++ [x]) := by
  unfold OwnStrs
  have e : strs (l ++ [x]) = strs l ++ [Value.string x] := by simp
  rw [e, List.length_append, List.length_map]
  exact h
theorem str_under {base : Nat} {w w0 w' : World} {v : Value} {l : List ByteArray} (h : OwnStrs base w v l) (hB : Below w0.heap.size w0 w) (hbase : base = w0.heap.size) (hg : w.grownBy w' v.ownBlock) : Below w0.heap.size w0 w' :=
  hB.grown hg hB.size (fun k hk => by have := (World.ownsRow.lt h k hk).1; omega)
theorem part_list (s : ByteArray) (f k : Nat) (hk : k ≤ s.size) : (s.extract f k).data.toList = (s.data.toList.take k).drop f := by
  rw [ByteArray.data_extract]
  simp only [Array.toList_extract, List.extract_eq_take_drop]
  rw [List.drop_take]
theorem drop_at (s : ByteArray) (k : Nat) (h : k < s.size) : s.data.toList.drop k = s[k] :: s.data.toList.drop (k + 1) := by
  have h' : k < s.data.toList.length := by rw [← size_eq]; exact h
  exact List.drop_eq_getElem_cons h'
theorem take_at (s : ByteArray) (k : Nat) (h : k < s.size) : s.data.toList.take (k + 1) = s.data.toList.take k ++ [s[k]] := by
  have h' : k < s.data.toList.length := by rw [← size_eq]; exact h
  rw [List.take_succ_eq_append_getElem h']; rfl
theorem cur_at (s : ByteArray) (f k : Nat) (hf : f ≤ k) (h : k < s.size) : (s.data.toList.take (k + 1)).drop f = (s.data.toList.take k).drop f ++ [s[k]] := by
  rw [take_at s k h, List.drop_append_of_le_length]
  rw [List.length_take, ← size_eq]
  omega
theorem cur_new (l : List UInt8) (k : Nat) : (l.take k).drop k = [] := by
  rw [List.drop_eq_nil_iff, List.length_take]; omega
def StrsOut (L : List (List UInt8)) (w : World) (e : Ending) (w' : World) : Prop := ∃ v Ls, e = .returned v ∧ OwnStrs w.heap.size w' v Ls ∧ Ls.map (·.data.toList) = L ∧ Below w.heap.size w w'
set_option maxRecDepth 100000 in
set_option maxHeartbeats 4000000 in
theorem rLinesOf_any (s : ByteArray) (w : World) (hs : s.size ≤ 1000000) : Calls Tryz.prog 18 #[.string s] w (StrsOut (linesS s.data.toList) w) := by
 obtain ⟨i0, hi, hz0, hz1, hz2⟩ := info_parts Tryz.infoS
 go_enter Tryz.func18, Tryz.ntmps18
 go_wp2_with fail
 go_loopw [3, 4, 5] (fun v a i wr => ∃ (k f : Nat) (Ls : List ByteArray), f ≤ k ∧ k ≤ s.size ∧ Ls.length ≤ k ∧ a = .int .i64 f ∧ i = .int .i64 k ∧ OwnStrs w.heap.size wr v Ls ∧ Below w.heap.size w wr ∧ Hid (Ls.map (·.data.toList) ++ linesGo ((s.data.toList.take k).drop f) (s.data.toList.drop k) = linesS s.data.toList)) (fun _ _ i _ => s.size - (intOf i).toNat)
 case atStart => exact ⟨0, 0, [], by omega, by omega, by simp, rfl, rfl, World.ownsRow_nil _ _ _ _, Below.refl _ _, Lib.hid rfl⟩
 case round =>
  obtain ⟨k, f, Ls, hf, hk, hL, rfl, rfl, hown, hB, HR⟩ := hrel
  have HO := Lib.hid hown; have HB := Lib.hid hB; clear hown hB
  by_cases hlt : k < s.size
  ·have HD := Lib.hid (drop_at s k hlt)
   have HCU := Lib.hid (cur_at s f k hf hlt)
   obtain ⟨pz, hpz⟩ : ∃ z, ((s[k].toNat : Int) == 10) = z := ⟨_, rfl⟩
   cases pz
   ·have hne : ¬ (s[k].toNat : Int) = 10 := by simpa using hpz
    clear hpz
    go_wp2_with fail
    go_roundw
    case rel =>
     refine ⟨k + 1, f, Ls, by omega, by omega, by omega, rfl, by go_num, HO.out, HB.out, Lib.hid ?_⟩
     rw [HCU.out, ← HR.out, HD.out]
     congr 1
     rw [linesGo, if_neg]
     intro e
     exact hne ((byte_is _ 10 (by omega)).2 e)
    case measure => simp [intOf]; omega
   ·have heq : (s[k].toNat : Int) = 10 := by simpa using hpz
    clear hpz
    have HO2 := Lib.hid (HO.out.alloc (.cells #[.string (s.extract f k)] 9))
    have HCE := Lib.hid (cell_str wr (s.extract f k) 9)
    go_wp2_with (at_builtin; refine wpList_append_own _ rfl (.tmp 16) (.tmp 21) 51 rfl w.heap.size 9 i0 (.string ⟨#[]⟩) 1 16 Tryz.underlying51 hi hz0 hz1 hz2 rfl (by decide) _ _ _ rfl HO2.out ⟨wr.heap.size, 0, none⟩ 1 1 [.string (s.extract f k)] rfl rfl HCE.out ?c2 ?c3 ?c4 ?c5 ?_)
    case c2 => simp [Value.oneCell']
    case c3 => simp only [maxLen, List.length_map]; omega
    case c4 => simp only [List.length_map]; omega
    case c5 => have := HB.out.size; simp; omega
    intro v' w1 hown1 hgrow _
    have hb1 := str_under HO2.out (w0 := w) (HB.out.alloc HB.out.size _) rfl hgrow
    have hown2 := own_str hown1
    clear hown1 hgrow
    go_wp2
    go_roundw
    case rel =>
     refine ⟨k + 1, k + 1, Ls ++ [s.extract f k], by omega, by omega, by simp; omega, by go_num, by go_num, hown2, hb1, Lib.hid ?_⟩
     rw [cur_new, ← HR.out, HD.out, List.map_append, List.append_assoc]
     congr 1
     have h10 : s[k] = 10 := (byte_is _ 10 (by omega)).1 heq
     rw [linesGo, if_pos h10]
     show (s.extract f k).data.toList :: _ = _
     rw [part_list s f k (by omega)]
     rfl
    case measure => simp [intOf]; omega
  ·have hks : k = s.size := by omega
   have htk : s.data.toList.take k = s.data.toList := List.take_of_length_le (by rw [← size_eq]; omega)
   have hdk : s.data.toList.drop k = [] := List.drop_eq_nil_iff.2 (by rw [← size_eq]; omega)
   have HR2 := HR.out
   rw [htk, hdk] at HR2
   have HR3 := Lib.hid HR2
   clear HR HR2 htk hdk
   by_cases hfs : f < s.size
   ·have HO2 := Lib.hid (HO.out.alloc (.cells #[.string (s.extract f s.size)] 9))
    have HCE := Lib.hid (cell_str wr (s.extract f s.size) 9)
    go_wp2_with (at_builtin; refine wpList_append_own _ rfl (.tmp 29) (.tmp 33) 51 rfl w.heap.size 9 i0 (.string ⟨#[]⟩) 1 16 Tryz.underlying51 hi hz0 hz1 hz2 rfl (by decide) _ _ _ rfl HO2.out ⟨wr.heap.size, 0, none⟩ 1 1 [.string (s.extract f s.size)] rfl rfl HCE.out ?c2 ?c3 ?c4 ?c5 ?_)
    case c2 => simp [Value.oneCell']
    case c3 => simp only [maxLen, List.length_map]; omega
    case c4 => simp only [List.length_map]; omega
    case c5 => have := HB.out.size; simp; omega
    intro v' w1 hown1 hgrow _
    have hb1 := str_under HO2.out (w0 := w) (HB.out.alloc HB.out.size _) rfl hgrow
    have hown2 := own_str hown1
    clear hown1 hgrow
    go_wp2
    refine bodyPost_ret (v := v') (by simp [results, Tryz.results18, go_sem]) rfl ⟨v', Ls ++ [s.extract f s.size], rfl, hown2, ?_, hb1⟩
    rw [← HR3.out, List.map_append]
    congr 1
    have hne : s.data.toList.drop f ≠ [] := fun e => by
     have := List.drop_eq_nil_iff.1 e
     rw [← size_eq] at this
     omega
    rw [linesGo, if_neg hne]
    show [(s.extract f s.size).data.toList] = _
    rw [part_list s f s.size (by omega), List.take_of_length_le (by rw [← size_eq]; omega)]
   ·go_wp2
    refine bodyPost_ret (v := u3) (by simp [results, Tryz.results18, go_sem]) rfl ⟨u3, Ls, rfl, HO.out, ?_, HB.out⟩
    have hnl : s.data.toList.drop f = [] := List.drop_eq_nil_iff.2 (by rw [← size_eq]; omega)
    rw [← HR3.out, hnl, linesGo, if_pos rfl, List.append_nil]
end

section
open Go.RowKit Go.Lib

theorem str_snoc (s cur : ByteArray) (k : Nat) (h : k < s.size) : (cur ++ s.extract k (k + 1)).data.toList = cur.data.toList ++ [s[k]] := by
  rw [ByteArray.data_append, Array.toList_append, part_list s k (k + 1) (by omega), take_at s k h, List.drop_append_of_le_length (by rw [List.length_take, ← size_eq]; omega), cur_new]
  rfl
theorem str_empty (c : ByteArray) : c.data.toList = [] ↔ c = ⟨#[]⟩ := by
  constructor
  · intro h
    obtain ⟨⟨l⟩⟩ := c
    have : l = [] := h
    rw [this]
  · rintro rfl; rfl
theorem wordsGo_space {cur l : List UInt8} : wordsGo cur (32 :: l) = (if cur = [] then [] else [cur]) ++ wordsGo [] l := by
  rw [wordsGo, if_pos rfl]
  split <;> rfl
theorem wordsGo_byte {cur l : List UInt8} {b : UInt8} (h : b ≠ 32) : wordsGo cur (b :: l) = wordsGo (cur ++ [b]) l := by
  rw [wordsGo, if_neg h]
theorem space_at {s : ByteArray} {k : Nat} (h : k < s.size) : (decide (k < s.size) && (s.data.toList.getD k 0 != 32)) = ((s[k].toNat : Int) != 32) := by
  rw [getD_at s k h, decide_eq_true h, Bool.true_and, Bool.eq_iff_iff, bne_iff_ne, bne_iff_ne]
  exact not_congr (byte_is s[k] 32 (by omega)).symm
set_option maxRecDepth 100000 in
set_option maxHeartbeats 4000000 in
theorem rWords_any (s : ByteArray) (w : World) (hs : s.size ≤ 1000000) : Calls Tryz.prog 19 #[.string s] w (StrsOut (wordsS s.data.toList) w) := by
 obtain ⟨i0, hi, hz0, hz1, hz2⟩ := info_parts Tryz.infoS
 go_enter Tryz.func19, Tryz.ntmps19
 go_wp2_with fail
 go_loopw [3, 4, 5] (fun v a i wr => ∃ (k : Nat) (cur : ByteArray) (Ls : List ByteArray), cur.size ≤ k ∧ k ≤ s.size + 1 ∧ Ls.length ≤ k ∧ a = .string cur ∧ i = .int .i64 k ∧ OwnStrs w.heap.size wr v Ls ∧ Below w.heap.size w wr ∧ Hid (Ls.map (·.data.toList) ++ (if k ≤ s.size then wordsGo cur.data.toList (s.data.toList.drop k) else []) = wordsS s.data.toList)) (fun _ _ i _ => s.size + 1 - (intOf i).toNat)
 case atStart => exact ⟨0, ⟨#[]⟩, [], Nat.le_refl 0, by omega, by simp, rfl, rfl, World.ownsRow_nil _ _ _ _, Below.refl _ _, Lib.hid (by rw [if_pos (by omega)]; rfl)⟩
 case round =>
  obtain ⟨k, cur, Ls, hcs, hk, hL, rfl, rfl, hown, hB, HR⟩ := hrel
  have HO := Lib.hid hown; have HB := Lib.hid hB; clear hown hB
  by_cases hlt : k ≤ s.size
  ·obtain ⟨nb, hnb⟩ : ∃ z, (decide (k < s.size) && (s.data.toList.getD k 0 != 32)) = z := ⟨_, rfl⟩
   have HN := Lib.hid hnb; clear hnb
   go_upto_region 6 with fail
   go_cut [21] (fun b wx => b = .bool nb ∧ wx = wr)
   case first =>
    go_wp2_with fail
    ·rename_i g1
     go_meet
     exact ⟨by rw [← HN.out, space_at g1], rfl⟩
    ·rename_i g1
     go_meet
     exact ⟨by rw [← HN.out, decide_eq_false (by omega)]; rfl, rfl⟩
   case rest =>
    obtain ⟨rfl, hw⟩ := hcut
    rename World => u1
    subst hw
    cases nb
    ·have hstop : wordsGo cur.data.toList (s.data.toList.drop k) = (if cur.data.toList = [] then [] else [cur.data.toList]) ++ (if k + 1 ≤ s.size then wordsGo [] (s.data.toList.drop (k + 1)) else []) := by
      by_cases hl : k < s.size
      ·have h32 : s[k] = 32 := by
        have := HN.out
        rw [getD_at s k hl] at this
        simpa [hl] using this
       rw [drop_at s k hl, h32, wordsGo_space, if_pos (show k + 1 ≤ s.size by omega)]
      ·rw [if_neg (show ¬ k + 1 ≤ s.size by omega), List.drop_eq_nil_iff.2 (by rw [← size_eq]; omega), List.append_nil]
       rw [wordsGo]
     have HST := Lib.hid hstop; clear hstop
     by_cases hce : cur = ⟨#[]⟩
     ·subst hce
      go_wp2_with fail
      go_roundw
      case rel =>
       refine ⟨k + 1, ⟨#[]⟩, Ls, Nat.zero_le _, by omega, by omega, rfl, by go_num, HO.out, HB.out, Lib.hid ?_⟩
       rw [← HR.out, if_pos hlt, HST.out]
       rfl
      case measure => simp [intOf]; omega
     ·have hce2 : ¬ cur.data.toList = [] := fun e => hce ((str_empty cur).1 e)
      have hce3 : ¬ cur = ByteArray.empty := hce
      have hce4 : (!cur.toList.isEmpty) = true := by
       cases hq : cur.toList with
       | nil => exact absurd ((toList_nil_iff_emptyBytes cur).1 hq) hce3
       | cons a l => rfl
      have HO2 := Lib.hid (HO.out.alloc (.cells #[.string cur] 9))
      have HCE := Lib.hid (cell_str u1 cur 9)
      go_wp2_with (at_builtin; refine wpList_append_own _ rfl (.tmp 31) (.tmp 33) 51 rfl w.heap.size 9 i0 (.string ⟨#[]⟩) 1 16 Tryz.underlying51 hi hz0 hz1 hz2 rfl (by decide) _ _ _ rfl HO2.out ⟨u1.heap.size, 0, none⟩ 1 1 [.string cur] rfl rfl HCE.out ?c2 ?c3 ?c4 ?c5 ?_)
      case c2 => simp [Value.oneCell']
      case c3 => simp only [maxLen, List.length_map]; omega
      case c4 => simp only [List.length_map]; omega
      case c5 => have := HB.out.size; simp; omega
      intro v' w1 hown1 hgrow _
      have hb1 := str_under HO2.out (w0 := w) (HB.out.alloc HB.out.size _) rfl hgrow
      have hown2 := own_str hown1
      clear hown1 hgrow
      go_wp2
      go_roundw
      case rel =>
       refine ⟨k + 1, ⟨#[]⟩, Ls ++ [cur], Nat.zero_le _, by omega, by simp; omega, rfl, by go_num, hown2, hb1, Lib.hid ?_⟩
       rw [← HR.out, if_pos hlt, HST.out, if_neg hce2, List.map_append, List.append_assoc]
       rfl
      case measure => simp [intOf]; omega
    ·have hl : k < s.size := by
      have := HN.out
      simp only [Bool.and_eq_true, decide_eq_true_eq] at this
      exact this.1
     have hb : s[k] ≠ 32 := by
      have := HN.out
      rw [getD_at s k hl] at this
      simp only [Bool.and_eq_true, decide_eq_true_eq, bne_iff_ne] at this
      exact this.2
     have HSN := Lib.hid (str_snoc s cur k hl)
     have HD := Lib.hid (drop_at s k hl)
     have hsz : (s.extract k (k + 1)).size = 1 := by rw [ByteArray.size_extract]; omega
     have hcc : ¬ 9223372036854775807 < cur.size + (s.extract k (k + 1)).size := by omega
     have hc2 : (cur ++ s.extract k (k + 1)).size ≤ k + 1 := by rw [ByteArray.size_append]; omega
     have HB2 := Lib.hid hb
     clear hb
     go_wp2_with fail
     go_roundw
     case rel =>
      refine ⟨k + 1, cur ++ s.extract k (k + 1), Ls, hc2, by omega, by omega, rfl, by go_num, HO.out, HB.out, Lib.hid ?_⟩
      rw [HSN.out, ← HR.out, if_pos hlt, HD.out, wordsGo_byte HB2.out, if_pos (by omega)]
     case measure => simp [intOf]; omega
  ·have HR2 := HR.out
   rw [if_neg hlt, List.append_nil] at HR2
   have HR3 := Lib.hid HR2
   clear HR HR2
   go_wp2_with fail
   refine bodyPost_ret (v := u3) (by simp [results, Tryz.results19, go_sem]) rfl ⟨u3, Ls, rfl, HO.out, HR3.out, HB.out⟩
end

section
open Go.RowKit Go.Lib

def PrintOut (ps : List P3) (w : World) (e : Ending) (w' : World) : Prop :=
  e = .returned (.tuple #[.string (if tabOk ps = true then ⟨(printL ps).toArray⟩ else ⟨#[]⟩), .int .i64 (if tabOk ps = true then 0 else 11)]) ∧ Below w.heap.size w w'
def PtHeld (w : World) (G : Nat) (x y z : Int) (W : World) : Prop :=
  Below w.heap.size w W ∧ G < W.heap.size ∧ W.cell? ⟨G, 0, none⟩ = some (.int .i64 x) ∧ W.cell? ⟨G, 1, none⟩ = some (.int .i64 y) ∧ W.cell? ⟨G, 2, none⟩ = some (.int .i64 z)
theorem PtHeld.drew {w W : World} {G : Nat} {x y z : Int} (h : PtHeld w G x y z W) : PtHeld w G x y z W.drew := ⟨h.1.drew, h.2.1, h.2.2⟩
theorem keepPt {w W W' : World} {G : Nat} {x y z : Int} (h : PtHeld w G x y z W) (hq : Below W.heap.size W W') : PtHeld w G x y z W' := by
  obtain ⟨h0, h1, h2, h3, h4⟩ := h
  exact ⟨then_under h0 hq, Nat.lt_of_lt_of_le h1 hq.size, (hq.cell (p := ⟨G, 0, none⟩) h1).trans h2, (hq.cell (p := ⟨G, 1, none⟩) h1).trans h3, (hq.cell (p := ⟨G, 2, none⟩) h1).trans h4⟩
theorem pts_small : ∀ (ps : List P3) (last : Int), ptsOk last ps = true → -1 ≤ last → ∀ p ∈ ps, (0 ≤ p.1 ∧ p.1 ≤ 1000000) ∧ (-1000000000 ≤ p.2.1 ∧ p.2.1 ≤ p.2.2 ∧ p.2.2 ≤ 1000000000)
  | [], _, _, _, p, hp => by cases hp
  | q :: ps, last, h, hl, p, hp => by
    simp only [ptsOk, ptOk, inB, Bool.and_eq_true, decide_eq_true_eq] at h
    obtain ⟨⟨h1, h2, h3⟩, h4⟩ := h
    rcases List.mem_cons.1 hp with rfl | hp
    · exact ⟨⟨by omega, h2⟩, h3.2.1, h3.1, h3.2.2⟩
    · exact pts_small ps q.1 h4 (by omega) p hp
theorem lineS_len (p : P3) (h : (0 ≤ p.1 ∧ p.1 ≤ 1000000) ∧ (-1000000000 ≤ p.2.1 ∧ p.2.1 ≤ p.2.2 ∧ p.2.2 ≤ 1000000000)) : (lineS p).length ≤ 62 := by
  have e1 := itoa_len (n := p.1) (by omega) (by omega)
  have e2 := itoa_len (n := p.2.1) (by omega) (by omega)
  have e3 := itoa_len (n := p.2.2) (by omega) (by omega)
  unfold lineS
  simp only [List.length_append, List.length_cons]
  omega
theorem printL_len : ∀ (l : List P3), (∀ p ∈ l, (0 ≤ p.1 ∧ p.1 ≤ 1000000) ∧ (-1000000000 ≤ p.2.1 ∧ p.2.1 ≤ p.2.2 ∧ p.2.2 ≤ 1000000000)) → (printL l).length ≤ 63 * l.length
  | [], _ => Nat.le_refl _
  | p :: l, h => by
    have e1 := lineS_len p (h p (.head _))
    have e2 := printL_len l (fun q hq => h q (.tail _ hq))
    rw [printL]
    simp only [List.length_append, List.length_cons]
    omega
theorem cat_lists (a b : List UInt8) : (⟨a.toArray⟩ : ByteArray) ++ ⟨b.toArray⟩ = ⟨(a ++ b).toArray⟩ := ByteArray.mk_append_mk a b
theorem line_cat (acc : List UInt8) (p : P3) : (⟨acc.toArray⟩ : ByteArray) ++ (((((⟨(itoa p.1).toArray⟩ : ByteArray) ++ ⟨#[32]⟩) ++ ⟨(itoa p.2.1).toArray⟩) ++ ⟨#[32]⟩ ++ ⟨(itoa p.2.2).toArray⟩) ++ ⟨#[10]⟩) = ⟨(acc ++ (lineS p ++ [10])).toArray⟩ := by
  have e32 : (⟨#[32]⟩ : ByteArray) = ⟨[32].toArray⟩ := rfl
  have e10 : (⟨#[10]⟩ : ByteArray) = ⟨[10].toArray⟩ := rfl
  rw [e32, e10, cat_lists, cat_lists, cat_lists, cat_lists, cat_lists, cat_lists]
  congr 2
  unfold lineS
  simp
theorem take_next {l : List P3} {k : Nat} {p : P3} (h : l[k]? = some p) : l.take (k + 1) = l.take k ++ [p] := by
  have hk : k < l.length := (List.getElem?_eq_some_iff.1 h).1
  rw [List.take_succ_eq_append_getElem hk]
  rw [List.getElem?_eq_getElem hk] at h
  injection h with h
  rw [h]
theorem cells_new3 (w : World) (x y z : Int) (t : TypeId) (w0 : World) (hB : Below w0.heap.size w0 w) : PtHeld w0 w.heap.size x y z (w.alloc (.cells #[.int .i64 x, .int .i64 y, .int .i64 z] t)) :=
  ⟨hB.alloc hB.size _, by simp, by simp, by simp, by simp⟩
set_option maxRecDepth 100000 in
set_option maxHeartbeats 4000000 in
theorem rPrint_any (A : Option Addr) (n c : Nat) (ps : List P3) (w : World) (hn : n = ps.length) (hm : n ≤ maxLen) (hp : Pts w A ps) :
  Calls Tryz.prog 5 #[tv A n c] w (PrintOut ps w) := by
 have HV : Hid (∀ W, Below w.heap.size w W → Calls Tryz.prog 14 #[tv A n c] W fun e w' => e = .returned (.bool (tabOk ps)) ∧ Below W.heap.size W w') := Lib.hid fun W hW => validTable_any A n c ps W hn hm (hp.below hW)
 have HN := Lib.hid hn; have HP := Lib.hid hp
 unfold maxLen at hm
 clear hn hp
 obtain ⟨t, ht⟩ : ∃ t, tabOk ps = t := ⟨_, rfl⟩
 rw [ht] at HV
 unfold PrintOut
 rw [ht]
 have HT := Lib.hid ht
 clear ht
 go_enter Tryz.func5, Tryz.ntmps5
 go_wp2_with fail
 refine (HV.out _ (alloc_under _ _)).mono ?_
 rintro e w1 ⟨rfl, hb⟩
 have HB1 := Lib.hid (then_under (alloc_under w (.cells #[.slice A n c] 24)) hb)
 have hsz0 : w.heap.size < w1.heap.size := by have := hb.size; simp at this; omega
 have c0 : w1.cell? ⟨w.heap.size, 0, none⟩ = some (.slice A n c) := by
  rw [hb.cell (p := ⟨w.heap.size, 0, none⟩) (by simp)]; simp
 clear hb
 cases t
 ·go_wp2_with fail
  refine bodyPost_ret (v := .tuple #[.string ⟨#[]⟩, .int .i64 11]) (by simp [results, Tryz.results5, go_sem]) rfl ⟨rfl, HB1.out⟩
 ·have hok := HT.out
  simp only [tabOk, Bool.and_eq_true, decide_eq_true_eq] at hok
  obtain ⟨⟨hn1, hn40⟩, hok⟩ := hok
  rw [← HN.out] at hn1 hn40
  have HS := Lib.hid (pts_small ps (-1) hok (by omega))
  clear hok HT
  obtain ⟨b, o, rfl, hbw, hcells⟩ : ∃ b o, A = some ⟨b, o, none⟩ ∧ b < w.heap.size ∧ ∀ k p, ps[k]? = some p → w.cell? ⟨b, o + k * 3, none⟩ = some (.int .i64 p.1) ∧ w.cell? ⟨b, o + k * 3 + 1, none⟩ = some (.int .i64 p.2.1) ∧ w.cell? ⟨b, o + k * 3 + 2, none⟩ = some (.int .i64 p.2.2) := by
   rcases HP.out with h | h
   ·exfalso
    have := HN.out
    rw [h] at this
    simp at this
    omega
   ·exact h
  have HCL := Lib.hid hcells
  clear hcells HP HV
  go_wp2_with fail
  clear c0
  go_loopw [4, 13] (fun a i wr => ∃ (k : Nat) (Acc : ByteArray), k ≤ n ∧ a = .string Acc ∧ i = .int .i64 k ∧ Below w.heap.size w wr ∧ Hid (Acc = ⟨(printL (ps.take k)).toArray⟩)) (fun _ i _ => n - (intOf i).toNat)
  case atStart => exact ⟨0, ⟨#[]⟩, by omega, rfl, rfl, HB1.out, Lib.hid rfl⟩
  case round =>
   obtain ⟨k, Acc, hk, rfl, rfl, hB, HAC⟩ := hrel
   by_cases hlt : k < n
   ·have hpk : ∃ p, ps[k]? = some p := ⟨_, List.getElem?_eq_getElem (show k < ps.length by rw [← HN.out]; exact hlt)⟩
    obtain ⟨⟨x, y, z⟩, hpk⟩ := hpk
    obtain ⟨d0, d1, d2⟩ := HCL.out k _ hpk
    rw [← hB.cell (p := ⟨b, o + k * 3, none⟩) hbw] at d0
    rw [← hB.cell (p := ⟨b, o + k * 3 + 1, none⟩) hbw] at d1
    rw [← hB.cell (p := ⟨b, o + k * 3 + 2, none⟩) hbw] at d2
    dsimp only at d0 d1 d2
    have hsm := HS.out _ (List.mem_of_getElem? hpk)
    dsimp only at hsm
    have lx := itoa_len (n := x) (by omega) (by omega)
    have ly := itoa_len (n := y) (by omega) (by omega)
    have lz := itoa_len (n := z) (by omega) (by omega)
    have HX := Lib.hid (rText_any x.natAbs x (Nat.le_refl _) (by omega) (by omega))
    have HY := Lib.hid (rText_any y.natAbs y (Nat.le_refl _) (by omega) (by omega))
    have HZ := Lib.hid (rText_any z.natAbs z (Nat.le_refl _) (by omega) (by omega))
    have la : Acc.size ≤ 2520 := by
     rw [HAC.out]
     show (printL (ps.take k)).length ≤ 2520
     refine Nat.le_trans (printL_len _ (fun p hp => HS.out p (List.mem_of_mem_take hp))) ?_
     rw [List.length_take]
     omega
    have hfin : Acc ++ (((((⟨(itoa x).toArray⟩ : ByteArray) ++ ⟨#[32]⟩) ++ ⟨(itoa y).toArray⟩) ++ ⟨#[32]⟩ ++ ⟨(itoa z).toArray⟩) ++ ⟨#[10]⟩) = ⟨(printL (ps.take (k + 1))).toArray⟩ := by
     rw [HAC.out, take_next hpk, printL_snoc]
     exact line_cat _ (x, y, z)
    unfold TextOut at HX HY HZ
    have tx : (⟨(itoa x).toArray⟩ : ByteArray).size ≤ 20 := lx
    have ty : (⟨(itoa y).toArray⟩ : ByteArray).size ≤ 20 := ly
    have tz : (⟨(itoa z).toArray⟩ : ByteArray).size ≤ 20 := lz
    generalize (⟨(itoa x).toArray⟩ : ByteArray) = X at HX hfin tx
    generalize (⟨(itoa y).toArray⟩ : ByteArray) = Y at HY hfin ty
    generalize (⟨(itoa z).toArray⟩ : ByteArray) = Z at HZ hfin tz
    obtain ⟨a1, hA1⟩ : ∃ a, X ++ ⟨#[32]⟩ = a := ⟨_, rfl⟩
    have s1 : a1.size ≤ 21 := by rw [← hA1, ByteArray.size_append]; show X.size + 1 ≤ 21; omega
    rw [hA1] at hfin
    obtain ⟨a2, hA2⟩ : ∃ a, a1 ++ Y = a := ⟨_, rfl⟩
    have s2 : a2.size ≤ 41 := by rw [← hA2, ByteArray.size_append]; omega
    rw [hA2] at hfin
    obtain ⟨a3, hA3⟩ : ∃ a, a2 ++ ⟨#[32]⟩ = a := ⟨_, rfl⟩
    have s3 : a3.size ≤ 42 := by rw [← hA3, ByteArray.size_append]; show a2.size + 1 ≤ 42; omega
    rw [hA3] at hfin
    obtain ⟨a4, hA4⟩ : ∃ a, a3 ++ Z = a := ⟨_, rfl⟩
    have s4 : a4.size ≤ 62 := by rw [← hA4, ByteArray.size_append]; omega
    rw [hA4] at hfin
    obtain ⟨a5, hA5⟩ : ∃ a, a4 ++ ⟨#[10]⟩ = a := ⟨_, rfl⟩
    have s5 : a5.size ≤ 63 := by rw [← hA5, ByteArray.size_append]; show a4.size + 1 ≤ 63; omega
    rw [hA5] at hfin
    obtain ⟨a6, hA6⟩ : ∃ a, Acc ++ a5 = a := ⟨_, rfl⟩
    rw [hA6] at hfin
    have HA1 := Lib.hid hA1; have HA2 := Lib.hid hA2; have HA3 := Lib.hid hA3; have HA4 := Lib.hid hA4; have HA5 := Lib.hid hA5; have HA6 := Lib.hid hA6; have HF := Lib.hid hfin
    clear hA1 hA2 hA3 hA4 hA5 hA6 hfin lx ly lz hsm hpk
    have HB := Lib.hid hB
    clear hB
    go_upto_region 7 with fail
    have hS0 := cells_new3 wr x y z 39 w HB.out
    obtain ⟨W2, hW2⟩ : ∃ W2, wr.alloc (.cells #[.int .i64 x, .int .i64 y, .int .i64 z] 39) = W2 := ⟨_, rfl⟩
    rw [hW2] at hS0 ⊢
    clear hW2
    obtain ⟨G, hG⟩ : ∃ G, wr.heap.size = G := ⟨_, rfl⟩
    rw [hG] at hS0 ⊢
    clear hG d0 d1 d2
    refine wp_region_held_drew (S := PtHeld w G x y z) (by kernel_rfl) hS0.drew (fun hHeld => ?_)
    obtain ⟨yq, hW⟩ : ∃ W', W2.drew = W' := ⟨_, rfl⟩
    rw [hW] at hHeld ⊢
    clear hW hS0
    refine tK 17 (i := 0) (v := .string Acc) rfl rfl (by kernel_rfl) ?_ hHeld ?_
    ·intro w hSw; clear hSw; go_simp; try with_reducible rfl
    simp only [uZ, uS]
    refine tK 18 (i := 1) (v := .pointer (some ⟨G, 0, none⟩)) rfl rfl (by kernel_rfl) ?_ hHeld ?_
    ·intro w hSw; clear hSw; go_simp; try with_reducible rfl
    simp only [uZ, uS]
    refine tK 19 (i := 2) (v := .int .i64 x) rfl rfl (by kernel_rfl) ?_ hHeld ?_
    ·intro w hSw; obtain ⟨q0, q1, q2, q3, q4⟩ := hSw; clear q0 q1 q3 q4; go_simp; try with_reducible rfl
    simp only [uZ, uS]
    refine tK 22 (i := 5) (v := .pointer (some ⟨G, 1, none⟩)) rfl rfl (by kernel_rfl) ?_ hHeld ?_
    ·intro w hSw; clear hSw; go_simp; try with_reducible rfl
    simp only [uZ, uS]
    refine tK 23 (i := 6) (v := .int .i64 y) rfl rfl (by kernel_rfl) ?_ hHeld ?_
    ·intro w hSw; obtain ⟨q0, q1, q2, q3, q4⟩ := hSw; clear q0 q1 q2 q4; go_simp; try with_reducible rfl
    simp only [uZ, uS]
    refine tK 27 (i := 10) (v := .pointer (some ⟨G, 2, none⟩)) rfl rfl (by kernel_rfl) ?_ hHeld ?_
    ·intro w hSw; clear hSw; go_simp; try with_reducible rfl
    simp only [uZ, uS]
    refine tK 28 (i := 11) (v := .int .i64 z) rfl rfl (by kernel_rfl) ?_ hHeld ?_
    ·intro w hSw; obtain ⟨q0, q1, q2, q3, q4⟩ := hSw; clear q0 q1 q2 q3; go_simp; try with_reducible rfl
    simp only [uZ, uS]
    refine wpAnyH_ready (rs := [3]) (by kernel_rfl) (by simp) ?_
    refine AllReadyH.cons rfl (fun K hK => ?_) AllReadyH.nil
    go_simp
    (with_reducible refine (HX.out _).mono ?_)
    rintro x9 y9 ⟨rfl, hq⟩
    refine hK.out _ _ (keepPt hHeld hq) (fun hHeld2 => ?_)
    clear hq
    try simp only [Act.put, uA, uZ, uS]
    clear hK K hHeld
    have hHeld := hHeld2
    clear hHeld2
    refine tK 21 (i := 4) (v := .string a1) rfl rfl (by kernel_rfl) ?_ hHeld ?_
    ·intro w hSw; clear hSw; go_simp; rw [if_neg (by omega), HA1.out]
    simp only [uZ, uS]
    refine wpAnyH_ready (rs := [7]) (by kernel_rfl) (by simp) ?_
    refine AllReadyH.cons rfl (fun K hK => ?_) AllReadyH.nil
    go_simp
    (with_reducible refine (HY.out _).mono ?_)
    rintro x9 y9 ⟨rfl, hq⟩
    refine hK.out _ _ (keepPt hHeld hq) (fun hHeld2 => ?_)
    clear hq
    try simp only [Act.put, uA, uZ, uS]
    clear hK K hHeld
    have hHeld := hHeld2
    clear hHeld2
    refine tK 25 (i := 8) (v := .string a2) rfl rfl (by kernel_rfl) ?_ hHeld ?_
    ·intro w hSw; clear hSw; go_simp; rw [if_neg (by omega), HA2.out]
    simp only [uZ, uS]
    refine tK 26 (i := 9) (v := .string a3) rfl rfl (by kernel_rfl) ?_ hHeld ?_
    ·intro w hSw; clear hSw; go_simp; rw [if_neg (by omega), HA3.out]
    simp only [uZ, uS]
    refine wpAnyH_ready (rs := [12]) (by kernel_rfl) (by simp) ?_
    refine AllReadyH.cons rfl (fun K hK => ?_) AllReadyH.nil
    go_simp
    (with_reducible refine (HZ.out _).mono ?_)
    rintro x9 y9 ⟨rfl, hq⟩
    refine hK.out _ _ (keepPt hHeld hq) (fun hHeld2 => ?_)
    clear hq
    try simp only [Act.put, uA, uZ, uS]
    clear hK K hHeld
    have hHeld := hHeld2
    clear hHeld2
    refine tK 30 (i := 13) (v := .string a4) rfl rfl (by kernel_rfl) ?_ hHeld ?_
    ·intro w hSw; clear hSw; go_simp; rw [if_neg (by omega), HA4.out]
    simp only [uZ, uS]
    refine tK 31 (i := 14) (v := .string a5) rfl rfl (by kernel_rfl) ?_ hHeld ?_
    ·intro w hSw; clear hSw; go_simp; rw [if_neg (by omega), HA5.out]
    simp only [uZ, uS]
    refine tK 32 (i := 15) (v := .string a6) rfl rfl (by kernel_rfl) ?_ hHeld ?_
    ·intro w hSw; clear hSw; go_simp; rw [if_neg (by omega), HA6.out]
    simp only [uZ, uS]
    refine tK 4 (i := 16) (v := .string a6) rfl rfl (by kernel_rfl) ?_ hHeld ?_
    ·intro w hSw; clear hSw; go_simp; try with_reducible rfl
    simp only [uZ, uS]
    refine wpAnyH_done (by kernel_rfl) ?_ _
    go_wp2_with fail
    go_roundw
    case rel => exact ⟨k + 1, a6, by omega, rfl, by go_num, hHeld.1, HF⟩
    case measure => simp [intOf]; omega
   ·have hkn : ps.take k = ps := List.take_of_length_le (by have := HN.out; omega)
    have hAC := HAC.out
    rw [hkn] at hAC
    have HA := Lib.hid hAC
    have HB := Lib.hid hB
    clear hAC HAC hkn hB
    go_wp2_with fail
    refine bodyPost_ret (v := .tuple #[.string Acc, .int .i64 0]) (by simp [results, Tryz.results5, go_sem]) rfl ⟨?_, HB.out⟩
    rw [HA.out]
    done
end

section
open Go.RowKit Go.Lib

def pointS : List (List UInt8) → Option P3
  | [a, b, c] =>
    match numberS a 10 false, numberS b 10 true, numberS c 10 true with
    | some x, some y, some z => some (x, y, z)
    | _, _, _ => none
  | _ => none
def lineP (l : List UInt8) : Option (Option P3) := if wordsS l = [] ∨ l.getD 0 0 = 35 then some none else (pointS (wordsS l)).map some
def readS : Nat → List (List UInt8) → Except Nat (List P3)
  | _, [] => .ok []
  | i, l :: r =>
    match lineP l with
    | none => .error (i + 1)
    | some none => readS (i + 1) r
    | some (some p) => (readS (i + 1) r).map (p :: ·)
def parseS (l : List UInt8) : List P3 × Nat × Nat :=
  if 8000 < l.length then ([], 0, 2)
  else match readS 0 (linesS l) with
    | .error k => ([], k, 12)
    | .ok [] => ([], (linesS l).length + 1, 12)
    | .ok (p :: ps) => if tabOk (p :: ps) = true then (p :: ps, 0, 0) else ([], 0, 11)
def onto (ps : List P3) (r : Except Nat (List P3)) : Except Nat (List P3) := r.map (ps ++ ·)
theorem onto_nil (r : Except Nat (List P3)) : onto [] r = r := by cases r <;> rfl
theorem onto_ok (ps : List P3) (r : List P3) : onto ps (.ok r) = .ok (ps ++ r) := rfl
theorem onto_error (ps : List P3) (k : Nat) : onto ps (.error k) = .error k := rfl
theorem onto_cons (ps : List P3) (p : P3) (r : Except Nat (List P3)) : onto ps (r.map (p :: ·)) = onto (ps ++ [p]) r := by
  cases r with
  | error k => rfl
  | ok q => show Except.ok (ps ++ p :: q) = Except.ok ((ps ++ [p]) ++ q); rw [List.append_assoc]; rfl
theorem read_fault {i : Nat} {l : List UInt8} {r : List (List UInt8)} (h : lineP l = none) : readS i (l :: r) = .error (i + 1) := by rw [readS, h]
theorem read_skip {i : Nat} {l : List UInt8} {r : List (List UInt8)} (h : lineP l = some none) : readS i (l :: r) = readS (i + 1) r := by rw [readS, h]
theorem read_point {i : Nat} {l : List UInt8} {r : List (List UInt8)} {p : P3} (h : lineP l = some (some p)) : readS i (l :: r) = (readS (i + 1) r).map (p :: ·) := by rw [readS, h]
theorem line_skip {l : List UInt8} (h : wordsS l = [] ∨ l.getD 0 0 = 35) : lineP l = some none := if_pos h
theorem line_take {l : List UInt8} (h : ¬(wordsS l = [] ∨ l.getD 0 0 = 35)) : lineP l = (pointS (wordsS l)).map some := if_neg h
theorem point_three {ws : List (List UInt8)} (h : ws.length ≠ 3) : pointS ws = none := by
  match ws, h with
  | [], _ => rfl
  | [_], _ => rfl
  | [_, _], _ => rfl
  | [_, _, _], h => exact absurd rfl h
  | _ :: _ :: _ :: _ :: _, _ => rfl
theorem line_back {p : P3} (h : (0 ≤ p.1 ∧ p.1 ≤ 1000000) ∧ (-1000000000 ≤ p.2.1 ∧ p.2.1 ≤ p.2.2 ∧ p.2.2 ≤ 1000000000)) : lineP (lineS p) = some (some p) := by
  obtain ⟨b, r, e, h35⟩ := line_head p
  have hg : (lineS p).getD 0 0 = b := by rw [e]; rfl
  have h1 : numberS (itoa p.1) 10 false = some p.1 := number_pos.2 ⟨number_iff.2 ⟨rfl, by omega, by omega⟩, h.1.1⟩
  have h2 : numberS (itoa p.2.1) 10 true = some p.2.1 := number_iff.2 ⟨rfl, by omega, by omega⟩
  have h3 : numberS (itoa p.2.2) 10 true = some p.2.2 := number_iff.2 ⟨rfl, by omega, by omega⟩
  rw [line_take (by rw [hg, words_line]; rintro (q | q); · cases q
                    · exact h35 q), words_line]
  show Option.map some (match numberS (itoa p.1) 10 false, numberS (itoa p.2.1) 10 true, numberS (itoa p.2.2) 10 true with
    | some x, some y, some z => some (x, y, z)
    | _, _, _ => none) = _
  rw [h1, h2, h3]
  rfl
theorem read_back : ∀ (ps : List P3) (i : Nat), (∀ p ∈ ps, (0 ≤ p.1 ∧ p.1 ≤ 1000000) ∧ (-1000000000 ≤ p.2.1 ∧ p.2.1 ≤ p.2.2 ∧ p.2.2 ≤ 1000000000)) → readS i (ps.map lineS) = .ok ps
  | [], _, _ => rfl
  | p :: ps, i, h => by
    rw [List.map_cons, read_point (line_back (h p (.head _))), read_back ps (i + 1) (fun q hq => h q (.tail _ hq))]
    rfl
theorem parse_print {ps : List P3} (h : tabOk ps = true) : parseS (printL ps) = (ps, 0, 0) := by
  have h' := h
  simp only [tabOk, Bool.and_eq_true, decide_eq_true_eq] at h'
  obtain ⟨⟨h1, h40⟩, hok⟩ := h'
  have hs := pts_small ps (-1) hok (by omega)
  have hl := printL_len ps hs
  unfold parseS
  rw [if_neg (by omega), lines_print, read_back ps 0 hs]
  match ps, h1 with
  | p :: ps, _ =>
    show (if tabOk (p :: ps) = true then (p :: ps, 0, 0) else ([], 0, 11)) = _
    rw [if_pos h]
end

section
open Go.RowKit Go.Lib

def ParseOut (r : List P3 × Nat × Nat) (w : World) (e : Ending) (w' : World) : Prop :=
  ∃ v, e = .returned (.tuple #[.agg #[v], .int .i64 r.2.1, .int .i64 r.2.2]) ∧ OwnPts w.heap.size w' v r.1 ∧ Below w.heap.size w w'
def StrsAt (w : World) (g : Nat) (L : List ByteArray) : Prop := g < w.heap.size ∧ ∀ k x, L[k]? = some x → w.cell? ⟨g, k, none⟩ = some (.string x)
theorem StrsAt.only {w w' : World} {g h : Nat} {L : List ByteArray} (ha : StrsAt w g L) (hb : Only h w w') (hne : g ≠ h) : StrsAt w' g L :=
  ⟨Nat.lt_of_lt_of_le ha.1 hb.size, fun k x hk => ((Only.cells hb).1 g k ha.1 hne).trans (ha.2 k x hk)⟩
theorem own_lies {base : Nat} {w : World} {v : Value} {L : List ByteArray} (h : OwnStrs base w v L) (hL : 0 < L.length) : ∃ g c, v = .slice (some ⟨g, 0, none⟩) L.length c ∧ base ≤ g ∧ StrsAt w g L := by
  have h' : w.ownsRow base 9 1 v (strs L).length (strs L) := h
  have hl : (strs L).length = L.length := List.length_map _
  rcases h'.2 with ⟨_, h0⟩ | ⟨g, c, cur, hv, hb, _⟩
  · omega
  · rw [hl] at hv
    have h2 : w.ownsRow base 9 1 (.slice (some ⟨g, 0, none⟩) L.length c) (strs L).length (strs L) := hv ▸ h'
    rw [hl] at h2
    have hlt := (World.ownsRow.lt h2 g rfl).2
    refine ⟨g, c, hv, hb, hlt, fun k x hk => ?_⟩
    have hk' : k < L.length := (List.getElem?_eq_some_iff.1 hk).1
    rw [World.ownsRow.cellAt h2 k (by omega), List.getElem?_map, hk]
    rfl
theorem own_none {base : Nat} {w : World} {v : Value} (h : OwnStrs base w v []) : ∃ A c, v = .slice A 0 c := by
  rcases (show w.ownsRow base 9 1 v 0 [] from h).2 with ⟨hv, _⟩ | ⟨g, c, _, hv, _⟩
  · exact ⟨none, 0, hv⟩
  · exact ⟨_, c, hv⟩
theorem linesGo_count : ∀ (l cur : List UInt8), (linesGo cur l).length ≤ l.length + 1 ∧ ∀ x ∈ linesGo cur l, x.length ≤ cur.length + l.length
  | [], cur => by
    rw [linesGo]
    split
    · exact ⟨by simp, fun x h => by cases h⟩
    · refine ⟨by simp, fun x h => ?_⟩
      rcases List.mem_cons.1 h with rfl | h
      · simp
      · cases h
  | b :: l, cur => by
    rw [linesGo]
    split
    · have ih := linesGo_count l []
      refine ⟨by simp only [List.length_cons]; omega, fun x h => ?_⟩
      rcases List.mem_cons.1 h with rfl | h
      · simp
      · have := ih.2 x h
        simp only [List.length_nil, List.length_cons] at *
        omega
    · have ih := linesGo_count l (cur ++ [b])
      refine ⟨by simp only [List.length_cons]; omega, fun x h => ?_⟩
      have := ih.2 x h
      simp only [List.length_append, List.length_cons, List.length_nil] at *
      omega
theorem wordsGo_count : ∀ (l cur : List UInt8), ∀ x ∈ wordsGo cur l, x.length ≤ cur.length + l.length
  | [], cur, x, h => by
    rw [wordsGo] at h
    split at h
    · cases h
    · rcases List.mem_cons.1 h with rfl | h
      · simp
      · cases h
  | b :: l, cur, x, h => by
    rw [wordsGo] at h
    split at h
    · have h2 : x = cur ∨ x ∈ wordsGo [] l := by
        split at h
        · exact .inr h
        · exact List.mem_cons.1 h
      rcases h2 with rfl | h2
      · simp
      · have := wordsGo_count l [] x h2
        simp only [List.length_nil, List.length_cons] at *
        omega
    · have := wordsGo_count l (cur ++ [b]) x h
      simp only [List.length_append, List.length_cons, List.length_nil] at *
      omega
theorem parse_end {l : List UInt8} {ps : List P3} (h : ¬ 8000 < l.length) (hr : readS 0 (linesS l) = .ok ps) : parseS l = if ps.length = 0 then ([], (linesS l).length + 1, 12) else if tabOk ps = true then (ps, 0, 0) else ([], 0, 11) := by
  unfold parseS
  rw [if_neg h, hr]
  cases ps with
  | nil => rfl
  | cons p q => rfl
theorem parse_stop {l : List UInt8} {k : Nat} (h : ¬ 8000 < l.length) (hr : readS 0 (linesS l) = .error k) : parseS l = ([], k, 12) := by
  unfold parseS
  rw [if_neg h, hr]
theorem below_set2 {w W : World} (h : Below w.heap.size w W) (u : Value) : Below w.heap.size w (W.setCell ⟨w.heap.size, 0, none⟩ u) := h.setCell (p := ⟨w.heap.size, 0, none⟩) (by simp) u
def PBundle (W2 : World) (G : Nat) (v : Value) (ps : List P3) (W : World) : Prop := OwnPts (G + 1) W v ps ∧ Blk W G 24 #[v] ∧ Only G W2 W
theorem PBundle.on {W2 W W' : World} {G : Nat} {v : Value} {ps : List P3} (h : PBundle W2 G v ps W) (hb : Below W.heap.size W W') : PBundle W2 G v ps W' :=
  ⟨h.1.grown (below_grownNone hb) (fun _ e => by cases e), h.2.1.below hb h.2.1.lt, h.2.2.trans (Only.of_below hb)⟩
theorem num_letters (o : Option Int) : ∃ n b, o.getD 0 = n ∧ o.isSome = b ∧ (b = true → o = some n) ∧ (b = false → o = none) := by
  cases o with
  | none => exact ⟨0, false, rfl, rfl, fun h => (by cases h), fun _ => rfl⟩
  | some n => exact ⟨n, true, rfl, rfl, fun _ => rfl, fun h => (by cases h)⟩
theorem ptCells_at : ∀ {ps : List P3} {k : Nat} {p : P3}, ps[k]? = some p → (ptCells ps)[k * 3 + 0]? = some (.int .i64 p.1) ∧ (ptCells ps)[k * 3 + 1]? = some (.int .i64 p.2.1) ∧ (ptCells ps)[k * 3 + 2]? = some (.int .i64 p.2.2)
  | [], k, p, h => by cases h
  | q :: ps, 0, p, h => by
    injection h with h
    subst h
    exact ⟨rfl, rfl, rfl⟩
  | q :: ps, k + 1, p, h => by
    have ih := ptCells_at (ps := ps) (k := k) h
    have e : ∀ j, (ptCells (q :: ps))[(k + 1) * 3 + j]? = (ptCells ps)[k * 3 + j]? := by
      intro j
      show (Value.int .i64 q.1 :: Value.int .i64 q.2.1 :: Value.int .i64 q.2.2 :: ptCells ps)[(k + 1) * 3 + j]? = _
      rw [show (k + 1) * 3 + j = (k * 3 + j) + 1 + 1 + 1 by omega]
      rfl
    exact ⟨(e 0).trans ih.1, (e 1).trans ih.2.1, (e 2).trans ih.2.2⟩
theorem pts_form {base : Nat} {w : World} {v : Value} {ps : List P3} (h : OwnPts base w v ps) : ∃ A c, v = .slice A ps.length c ∧ Pts w A ps := by
  have h' : w.ownsRow base 39 3 v ps.length (ptCells ps) := h
  rcases h'.2 with ⟨hv, h0⟩ | ⟨g, c, cur, hv, hb, _⟩
  · exact ⟨none, 0, by rw [hv, h0], .inl (List.eq_nil_of_length_eq_zero h0)⟩
  · have h2 : w.ownsRow base 39 3 (.slice (some ⟨g, 0, none⟩) ps.length c) ps.length (ptCells ps) := hv ▸ h'
    refine ⟨_, c, hv, .inr ⟨g, 0, rfl, (World.ownsRow.lt h2 g rfl).2, fun k p hp => ?_⟩⟩
    have hk : k < ps.length := (List.getElem?_eq_some_iff.1 hp).1
    have hc := fun j (hj : j < 3) => World.ownsRow.cellAt h2 (k * 3 + j) (by omega)
    have hq := ptCells_at hp
    exact ⟨by rw [Nat.zero_add]; exact (hc 0 (by omega)).trans hq.1, by rw [Nat.zero_add]; exact (hc 1 (by omega)).trans hq.2.1, by rw [Nat.zero_add]; exact (hc 2 (by omega)).trans hq.2.2⟩
set_option maxRecDepth 100000 in
set_option maxHeartbeats 4000000 in
theorem rParse_any (s : ByteArray) (w : World) (hs : s.size ≤ 1000000) : Calls Tryz.prog 7 #[.string s] w (ParseOut (parseS s.data.toList) w) := by
 have HLO := Lib.hid (fun W => rLinesOf_any s W hs)
 obtain ⟨R, hR⟩ : ∃ R, parseS s.data.toList = R := ⟨_, rfl⟩
 rw [hR]
 have HR := Lib.hid hR
 clear hR
 go_enter Tryz.func7, Tryz.ntmps7
 by_cases hlong : (8000 : Int) < s.size
 ·have hRe : R = ([], 0, 2) := by
   rw [← HR.out]
   unfold parseS
   rw [if_pos (by rw [← size_eq]; omega)]
  subst hRe
  go_wp2_with fail
  refine bodyPost_ret (v := .tuple #[.agg #[.slice none 0 0], .int .i64 0, .int .i64 2]) (by simp [results, Tryz.results7, go_sem]) rfl ⟨_, rfl, World.ownsRow_nil _ _ _ _, alloc_under _ _⟩
 ·go_wp2_with fail
  refine (HLO.out _).mono ?_
  rintro e w1 ⟨v, Ls, rfl, hown, hLs, hb⟩
  have hbT := (Blk.new w 24 #[.slice none 0 0]).below hb (by simp)
  have hB1 := then_under (alloc_under w (.cells #[.slice none 0 0] 24)) hb
  obtain ⟨N, hN⟩ : ∃ N, Ls.length = N := ⟨_, rfl⟩
  obtain ⟨A, c, rfl, hlie⟩ : ∃ A c, v = .slice A N c ∧ (0 < N → ∃ g, A = some ⟨g, 0, none⟩ ∧ w.heap.size < g ∧ StrsAt w1 g Ls) := by
   rcases Nat.eq_zero_or_pos Ls.length with h0 | h0
   ·have hnil := List.eq_nil_of_length_eq_zero h0
    rw [hnil] at hown
    obtain ⟨A, c, rfl⟩ := own_none hown
    exact ⟨A, c, by rw [← hN, h0], fun h => by omega⟩
   ·obtain ⟨g, c, rfl, hg, hl⟩ := own_lies hown h0
    refine ⟨_, c, by rw [← hN], fun _ => ⟨g, rfl, ?_, hl⟩⟩
    simp at hg
    omega
  have HLI := Lib.hid hlie; have HLS := Lib.hid hLs; have HNL := Lib.hid hN
  have hszw : w.heap.size < w1.heap.size := by have := hb.size; simp at this; omega
  have HT1 := Lib.hid hbT; have HB1 := Lib.hid hB1
  clear hlie hLs hN hown hb hbT hB1 HLO
  have hNs : N ≤ 1000001 := by
   have := (linesGo_count s.data.toList []).1
   rw [← size_eq] at this
   rw [← HNL.out, ← List.length_map (f := fun x : ByteArray => x.data.toList), HLS.out]
   unfold linesS
   omega
  go_upto_region 5 with fail
  obtain ⟨W2, hW2⟩ : ∃ W2, w1.alloc (.cells #[.slice none 0 0] 24) = W2 := ⟨_, rfl⟩
  have hT6 := Blk.new w1 24 #[.slice none 0 0]
  have hO6 : Only w1.heap.size w1 W2 := by rw [← hW2]; exact (Only.refl _ _).alloc _
  have hT2 := HT1.out.alloc (.cells #[.slice none 0 0] 24)
  have hB2 := HB1.out.alloc HB1.out.size (.cells #[.slice none 0 0] 24)
  rw [hW2] at hT6 hT2 hB2 ⊢
  obtain ⟨G, hG⟩ : ∃ G, w1.heap.size = G := ⟨_, rfl⟩
  have hG1 : G < W2.heap.size := by rw [← hW2, ← hG]; simp
  have hLW : 0 < N → ∃ g, A = some ⟨g, 0, none⟩ ∧ w.heap.size < g ∧ g < G ∧ StrsAt W2 g Ls := fun h => by
   obtain ⟨g, e1, e2, e3⟩ := HLI.out h
   refine ⟨g, e1, e2, by rw [← hG]; exact e3.1, ?_⟩
   exact e3.only hO6 (by have := e3.1; omega)
  have hG2 : W2.heap.size = G + 1 := by rw [← hW2, ← hG]; simp
  rw [hG] at hT6 hszw ⊢
  have HT6 := Lib.hid hT6; have HT2 := Lib.hid hT2; have HB2 := Lib.hid hB2; have HLW := Lib.hid hLW
  clear hW2 hG hO6 hT6 hT2 hB2 hLW HLI HT1 HB1
  go_wp2_with fail
  go_loopw [24] (fun i wr => ∃ (k : Nat) (v : Value) (ps : List P3), k ≤ N ∧ i = .int .i64 k ∧ ps.length ≤ k ∧ OwnPts (G + 1) wr v ps ∧ Blk wr G 24 #[v] ∧ Only G W2 wr ∧ Hid (readS 0 (Ls.map (·.data.toList)) = onto ps (readS k ((Ls.map (·.data.toList)).drop k)))) (fun i _ => N - (intOf i).toNat)
  case atStart => exact ⟨0, .slice none 0 0, [], by omega, rfl, Nat.le_refl 0, World.ownsRow_nil _ _ _ _, HT6.out, Only.refl _ _, Lib.hid (onto_nil _).symm⟩
  case round =>
   obtain ⟨k, v, ps, hk, rfl, hpk, hown, hT, hO, HRD⟩ := hrel
   have HO := Lib.hid hown; have HT := Lib.hid hT; have HON := Lib.hid hO
   have HBW := Lib.hid (Only.below hO HB2.out (Nat.le_of_lt hszw))
   have HTW := Lib.hid (HT2.out.grown hO (by intro e; injection e with e; omega))
   clear hown hT hO
   by_cases hlt : k < N
   ·obtain ⟨g, rfl, hg1, hg2, hSA⟩ := HLW.out (by omega)
    have hSAw := hSA.only HON.out (by omega)
    have hx : ∃ x, Ls[k]? = some x := ⟨_, List.getElem?_eq_getElem (show k < Ls.length by rw [HNL.out]; exact hlt)⟩
    obtain ⟨x, hx⟩ := hx
    have d0 := hSAw.2 k x hx
    have hxl : x.size ≤ 1000000 := by
     have hm : x.data.toList ∈ linesS s.data.toList := by rw [← HLS.out]; exact List.mem_map_of_mem (List.mem_of_getElem? hx)
     have := (linesGo_count s.data.toList []).2 _ hm
     rw [← size_eq, ← size_eq] at this
     simp only [List.length_nil] at this
     omega
    have hdr : (Ls.map (·.data.toList)).drop k = x.data.toList :: (Ls.map (·.data.toList)).drop (k + 1) := by
     have hk' : k < (Ls.map (·.data.toList)).length := by rw [List.length_map, HNL.out]; exact hlt
     rw [List.drop_eq_getElem_cons hk']
     congr 1
     rw [List.getElem_map]
     rw [List.getElem?_eq_getElem (show k < Ls.length by rw [HNL.out]; exact hlt)] at hx
     injection hx with hx
     rw [hx]
    have hRD := HRD.out
    rw [hdr] at hRD
    have HRD2 := Lib.hid hRD
    have hPB : PBundle W2 G v ps wr := ⟨HO.out, HT.out, HON.out⟩
    have HPB := Lib.hid hPB
    have HW := Lib.hid (rWords_any x wr hxl)
    have hGwr : G < wr.heap.size := HT.out.lt
    clear hSA hSAw hx hRD hdr HRD hPB HO HT HON HBW HTW
    go_wp2_with fail
    refine HW.out.mono ?_
    rintro e wy ⟨v9, Ws, rfl, hown9, hWs, hb9⟩
    have HPY := Lib.hid (HPB.out.on hb9)
    obtain ⟨M, hM⟩ : ∃ M, Ws.length = M := ⟨_, rfl⟩
    obtain ⟨A9, c9, rfl, hlie⟩ : ∃ A c, v9 = .slice A M c ∧ (0 < M → ∃ g, A = some ⟨g, 0, none⟩ ∧ StrsAt wy g Ws) := by
     rcases Nat.eq_zero_or_pos Ws.length with h0 | h0
     ·have hnil := List.eq_nil_of_length_eq_zero h0
      rw [hnil] at hown9
      obtain ⟨A, c, rfl⟩ := own_none hown9
      exact ⟨A, c, by rw [← hM, h0], fun h => by omega⟩
     ·obtain ⟨g, c, rfl, hg, hl⟩ := own_lies hown9 h0
      exact ⟨_, c, by rw [← hM], fun _ => ⟨g, rfl, hl⟩⟩
    have HLI9 := Lib.hid hlie; have HWS := Lib.hid hWs; have HM := Lib.hid hM
    clear hlie hWs hM hown9 hb9 HPB HW d0
    obtain ⟨sk, hsk⟩ : ∃ sk, decide (wordsS x.data.toList = [] ∨ x.data.toList.getD 0 0 = 35) = sk := ⟨_, rfl⟩
    have HSK := Lib.hid hsk
    have hx0 : 0 < M → 0 < x.size := by
     intro h
     refine Nat.pos_of_ne_zero fun h0 => ?_
     have hnil : x.data.toList = [] := List.eq_nil_of_length_eq_zero (by rw [← size_eq]; exact h0)
     have h1 := HWS.out
     rw [hnil] at h1
     have h2 := congrArg List.length h1
     rw [List.length_map, HM.out] at h2
     simp [wordsS, wordsGo] at h2
     omega
    have HX0 := Lib.hid hx0
    clear hsk hx0
    go_upto_region 9 with fail
    go_cut [38] (fun b wx => b = .bool sk ∧ wx = wy)
    case first =>
     by_cases hM0 : M = 0
     ·have hsk1 : sk = true := by
       rw [← HSK.out]
       refine decide_eq_true (.inl ?_)
       have h1 := HWS.out
       have hW0 : Ws = [] := List.eq_nil_of_length_eq_zero (by rw [HM.out]; exact hM0)
       rw [hW0] at h1
       exact h1.symm
      subst hM0
      go_wp2_with fail
      go_meet
      exact ⟨by rw [hsk1], rfl⟩
     ·have hxs := HX0.out (by omega)
      have hMi : ¬ (M : Int) = 0 := by omega
      have hsk1 : sk = ((x[0].toNat : Int) == 35) := by
       rw [← HSK.out, getD_at x 0 hxs, Bool.eq_iff_iff, decide_eq_true_eq, beq_iff_eq]
       refine Iff.trans ?_ (byte_is x[0] 35 (by omega)).symm
       show _ ↔ x[0] = 35
       refine ⟨fun h => h.resolve_left fun h1 => ?_, .inr⟩
       have h2 := congrArg List.length HWS.out
       rw [List.length_map, HM.out, h1] at h2
       exact hM0 h2
      go_wp2_with fail
      go_meet
      exact ⟨by rw [hsk1, beq_eq_false_iff_ne.2 hMi, Bool.false_or], rfl⟩
    case rest =>
     obtain ⟨rfl, hw⟩ := hcut
     rename World => u1
     subst hw
     cases sk
     ·have hskf := of_decide_eq_false HSK.out
      have HLP := Lib.hid (line_take hskf)
      clear hskf HSK
      have hBy := Only.below HPY.out.2.2 HB2.out (Nat.le_of_lt hszw)
      have hTy := HT2.out.grown HPY.out.2.2 (by intro e; injection e with e; omega)
      have hfail : lineP x.data.toList = none → R = ([], k + 1, 12) := by
       intro h
       have h1 := HRD2.out
       rw [read_fault h, onto_error, HLS.out] at h1
       rw [← HR.out]
       exact parse_stop (by rw [← size_eq]; omega) h1
      have HFA := Lib.hid hfail
      have f2 := hTy.frozen 0
      have l2 := hTy.lt
      have t2 := hTy.cell 0
      simp at t2
      have HSL := Lib.hid (below_set2 hBy)
      have hk1 : IntKind.i64.wrap ((k : Int) + 1) = ((k + 1 : Nat) : Int) := by rw [IntWalk.i64_in _ ⟨by omega, by omega⟩]; omega
      clear hfail hBy hTy
      by_cases hM3 : M = 3
      ·subst hM3
       obtain ⟨g9, rfl, hS9⟩ := HLI9.out (by omega)
       obtain ⟨p, q, r, rfl⟩ : ∃ p q r, Ws = [p, q, r] := by
        match Ws, HM.out with
        | [p, q, r], _ => exact ⟨p, q, r, rfl⟩
       have e0 := hS9.2 0 p rfl
       have e1 := hS9.2 1 q rfl
       have e2 := hS9.2 2 r rfl
       have hws : wordsS x.data.toList = [p.data.toList, q.data.toList, r.data.toList] := HWS.out.symm
       have hsmall : ∀ y : ByteArray, y.data.toList ∈ wordsS x.data.toList → y.size ≤ 1000000 := by
        intro y hy
        have := wordsGo_count x.data.toList [] _ hy
        rw [← size_eq, ← size_eq] at this
        simp only [List.length_nil] at this
        omega
       have N0 := rNumber_any p false u1 (hsmall p (by rw [hws]; simp))
       have N1 := rNumber_any q true u1 (hsmall q (by rw [hws]; simp))
       have N2 := rNumber_any r true u1 (hsmall r (by rw [hws]; simp))
       have hpt : lineP x.data.toList = Option.map some (match numberS p.data.toList 10 false, numberS q.data.toList 10 true, numberS r.data.toList 10 true with
        | some x, some y, some z => some (x, y, z)
        | _, _, _ => none) := by rw [HLP.out, hws]; rfl
       obtain ⟨n0, b0, z0, z1, z2, z3⟩ := num_letters (numberS p.data.toList 10 false)
       obtain ⟨n1, b1, y0, y1, y2, y3⟩ := num_letters (numberS q.data.toList 10 true)
       obtain ⟨n2, b2, x0, x1, x2, x3⟩ := num_letters (numberS r.data.toList 10 true)
       unfold NumOut at N0 N1 N2
       rw [z0, z1] at N0
       rw [y0, y1] at N1
       rw [x0, x1] at N2
       have HN0 := Lib.hid N0; have HN1 := Lib.hid N1; have HN2 := Lib.hid N2
       have hbad : (b0 && b1 && b2) = false → lineP x.data.toList = none := by
        intro h
        rw [hpt]
        cases b0
        ·rw [z3 rfl]; rfl
        ·cases b1
         ·rw [z2 rfl, y3 rfl]; rfl
         ·cases b2
          ·rw [z2 rfl, y2 rfl, x3 rfl]; rfl
          ·cases h
       have hgood : (b0 && b1 && b2) = true → lineP x.data.toList = some (some (n0, n1, n2)) := by
        intro h
        simp only [Bool.and_eq_true] at h
        rw [hpt, z2 h.1.1, y2 h.1.2, x2 h.2]; rfl
       have HBA := Lib.hid hbad; have HGO := Lib.hid hgood
       clear N0 N1 N2 hpt z0 z1 z2 z3 y0 y1 y2 y3 x0 x1 x2 x3 hbad hgood hsmall hws hS9 HLI9 HWS HM HX0
       go_wp2_with fail
       refine HN0.out.mono ?_
       rintro e9 w9 ⟨rfl, hw9⟩
       have hw9s := hw9.symm
       clear hw9
       subst hw9s
       go_wp2_with fail
       refine HN1.out.mono ?_
       rintro e9 w9 ⟨rfl, hw9⟩
       have hw9s := hw9.symm
       clear hw9
       subst hw9s
       go_wp2_with fail
       refine HN2.out.mono ?_
       rintro e9 w9 ⟨rfl, hw9⟩
       have hw9s := hw9.symm
       clear hw9
       subst hw9s
       clear e0 e1 e2 HN0 HN1 HN2
       obtain ⟨ba, hba⟩ : ∃ z, (b0 && b1 && b2) = z := ⟨_, rfl⟩
       cases ba
       ·have hRF := HFA.out (HBA.out hba)
        subst hRF
        clear HBA HGO HFA HRD2
        cases b0 <;> cases b1 <;> cases b2
        all_goals first | (exfalso; exact absurd hba (by decide)) | skip
        all_goals
         clear hba
         go_wp2_with fail
         refine bodyPost_ret (v := .tuple #[.agg #[.slice none 0 0], .int .i64 ((k : Int) + 1), .int .i64 12]) (by simp [results, Tryz.results7, go_sem, t2, l2]) rfl ⟨_, rfl, World.ownsRow_nil _ _ _ _, HSL.out _⟩
       ·have hg := HGO.out hba
        simp only [Bool.and_eq_true] at hba
        obtain ⟨⟨rfl, rfl⟩, rfl⟩ := hba
        have hRN := HRD2.out
        rw [read_point hg, onto_cons] at hRN
        have HRN := Lib.hid hRN
        clear HBA HGO HFA HRD2 hg hRN t2 f2 l2 HSL
        obtain ⟨sp, sn, sc, rfl⟩ := HPY.out.1.slice
        have c0 := HPY.out.2.1.cell 0
        have fG := HPY.out.2.1.frozen 0
        have lG := HPY.out.2.1.lt
        simp at c0
        obtain ⟨i0, hi, hz0, hz1, hz2⟩ := info_parts Tryz.infoP
        have hO2 := World.ownsRow.alloc (o := .cells #[.int .i64 n0, .int .i64 n1, .int .i64 n2] 39) (show u1.ownsRow (G + 1) 39 3 _ _ _ from HPY.out.1)
        have HO2 := Lib.hid hO2
        have hce : ∀ (j : Nat) (u : Value), [Value.int .i64 n0, .int .i64 n1, .int .i64 n2][j]? = some u → (u1.alloc (.cells #[.int .i64 n0, .int .i64 n1, .int .i64 n2] 39)).cell? ((⟨u1.heap.size, 0, none⟩ : Addr).add j) = some u :=
         World.news_of_block (cs := #[.int .i64 n0, .int .i64 n1, .int .i64 n2]) (t := 39) (fr := (0, 0)) (heap_alloc_new u1 _)
        have HCE := Lib.hid hce
        clear hO2 hce
        go_wp2_with (at_builtin; refine wpList_append_own _ rfl (.tmp 80) (.tmp 85) 22 rfl (G + 1) 39 i0 (.agg #[.int .i64 0, .int .i64 0, .int .i64 0]) 3 24 Tryz.underlying22 hi hz0 hz1 hz2 rfl (by decide) _ _ _ rfl HO2.out ⟨u1.heap.size, 0, none⟩ 1 1 [.int .i64 n0, .int .i64 n1, .int .i64 n2] rfl rfl HCE.out ?c2 ?c3 ?c4 ?c5 ?_)
        case c2 => simp [Value.oneCell']
        case c3 => simp only [maxLen]; omega
        case c4 => omega
        case c5 => simp; omega
        intro v' w5 hown1 hgrow _
        have hrow : ∀ j, Value.ownBlock (.slice sp sn sc) = some j → G + 1 ≤ j := fun j e => (HO2.out.lt j e).1
        have hOw5 : Only G W2 w5 := (HPY.out.2.2.alloc _).andThen hgrow (fun j e => .inl (by have := hrow j e; omega))
        have hT5 : Blk w5 G 24 #[.slice sp sn sc] := (HPY.out.2.1.alloc (.cells #[.int .i64 n0, .int .i64 n1, .int .i64 n2] 39)).grown hgrow (fun e => absurd (hrow _ e.symm) (by omega))
        have hown2 : OwnPts (G + 1) w5 v' (ps ++ [(n0, n1, n2)]) := by
         unfold OwnPts
         rw [List.length_append, ptCells_snoc]
         exact hown1
        clear hown1 hgrow hrow c0 fG lG HCE HO2 HPY
        obtain ⟨sp', sn', sc', rfl⟩ := hown2.slice
        have fG := hT5.frozen 0
        have lG := hT5.lt
        have c5 := hT5.cell 0
        simp at c5
        have HN5 := Lib.hid (show OwnPts (G + 1) (w5.setCell ⟨G, 0, none⟩ (.slice sp' sn' sc')) (.slice sp' sn' sc') (ps ++ [(n0, n1, n2)]) from by
         refine World.ownsRow.kept (show w5.ownsRow (G + 1) 39 3 _ _ _ from hown2) (grownBy_setCell' w5 G _) (.inr ?_)
         intro e
         have := (World.ownsRow.lt (show w5.ownsRow (G + 1) 39 3 _ _ _ from hown2) _ e).1
         omega)
        have HT5 := Lib.hid (hT5.set_ 0 (.slice sp' sn' sc'))
        have HO5 := Lib.hid (hOw5.setCell (p := ⟨G, 0, none⟩) (.inl rfl) (.slice sp' sn' sc'))
        clear hT5 hOw5 hown2
        go_wp2
        go_roundw
        case rel => exact ⟨k + 1, .slice sp' sn' sc', ps ++ [(n0, n1, n2)], by omega, by go_num, by simp; omega, HN5.out, HT5.out, HO5.out, HRN⟩
        case measure => simp [intOf]; omega
      ·have hM3i : ¬ (M : Int) = 3 := by omega
       have hRF := HFA.out (by
        rw [HLP.out, point_three (by
         rw [← HWS.out, List.length_map, HM.out]
         exact hM3)]
        rfl)
       subst hRF
       go_wp2_with fail
       refine bodyPost_ret (v := .tuple #[.agg #[.slice none 0 0], .int .i64 ((k : Int) + 1), .int .i64 12]) (by simp [results, Tryz.results7, go_sem, t2, l2]) rfl ⟨_, rfl, World.ownsRow_nil _ _ _ _, HSL.out _⟩
     ·have hsk := of_decide_eq_true HSK.out
      have hRN := HRD2.out
      rw [read_skip (line_skip hsk)] at hRN
      have HRN := Lib.hid hRN
      clear hsk hRN
      go_wp2_with fail
      go_roundw
      case rel => exact ⟨k + 1, v, ps, by omega, by go_num, by omega, HPY.out.1, HPY.out.2.1, HPY.out.2.2, HRN⟩
      case measure => simp [intOf]; omega
   ·have hkn : k = N := by omega
    have hRD := HRD.out
    rw [List.drop_eq_nil_iff.2 (by rw [List.length_map, HNL.out]; omega), readS, onto_ok, List.append_nil, HLS.out] at hRD
    have HRE := Lib.hid hRD
    clear HRD hRD
    obtain ⟨A2, c2, rfl, hPts⟩ := pts_form HO.out
    have HPT := Lib.hid hPts
    clear hPts
    have c0 := HT.out.cell 0
    simp at c0
    have hPR := parse_end (l := s.data.toList) (by rw [← size_eq]; omega) HRE.out
    rw [HR.out] at hPR
    have hLN : (linesS s.data.toList).length = N := by rw [← HLS.out, List.length_map, HNL.out]
    rw [hLN] at hPR
    have HPR := Lib.hid hPR
    clear hPR hLN HRE HR
    by_cases hp0 : ps.length = 0
    ·have hRR := HPR.out
     rw [if_pos hp0] at hRR
     subst hRR
     clear HPR
     have hN2 : IntKind.i64.wrap ((N : Int) + 1) = ((N + 1 : Nat) : Int) := by rw [IntWalk.i64_in _ ⟨by omega, by omega⟩]; omega
     rw [hp0] at c0
     have f2 := HTW.out.frozen 0
     have l2 := HTW.out.lt
     have t2 := HTW.out.cell 0
     simp at t2
     have hRES := Lib.hid (below_set2 HBW.out (.slice none 0 0))
     go_wp2_with fail
     refine bodyPost_ret (v := .tuple #[.agg #[.slice none 0 0], .int .i64 ((N : Int) + 1), .int .i64 12]) (by simp [results, Tryz.results7, go_sem, t2, l2]) rfl ⟨_, rfl, World.ownsRow_nil _ _ _ _, hRES.out⟩
    ·have f2 := HTW.out.frozen 0
     have l2 := HTW.out.lt
     have hne : ¬ (ps.length : Int) = 0 := by omega
     have hRR := HPR.out
     rw [if_neg hp0] at hRR
     have HRR := Lib.hid hRR
     clear hRR HPR
     have HVT := Lib.hid (validTable_any A2 ps.length c2 ps wr rfl (by simp only [maxLen]; omega) HPT.out)
     obtain ⟨t, ht⟩ : ∃ t, tabOk ps = t := ⟨_, rfl⟩
     rw [ht] at HVT HRR
     clear ht
     go_wp2_with fail
     refine HVT.out.mono ?_
     rintro e wx ⟨rfl, hbx⟩
     have hT2x := HTW.out.below hbx l2
     have hT6x := HT.out.below hbx HT.out.lt
     have hBx := below_then HBW.out hbx
     have hOx : OwnPts (G + 1) wx _ ps := HO.out.grown (below_grownNone hbx) (fun _ e => by cases e)
     have x0 := hT6x.cell 0
     have fx := hT2x.frozen 0
     have lx := hT2x.lt
     have t2 := hT2x.cell 0
     simp at t2
     have lg := hT6x.lt
     simp at x0
     have hsl := below_set2 hBx
     have HSL := Lib.hid hsl
     have HOX := Lib.hid hOx
     have HLX := Lib.hid (Nat.le_of_lt hszw)
     clear hT2x hT6x hBx hOx hsl c0 f2 l2 hbx
     cases t
     ·have hR3 := HRR.out
      rw [if_neg (by simp)] at hR3
      subst hR3
      go_wp2_with fail
      refine bodyPost_ret (v := .tuple #[.agg #[.slice none 0 0], .int .i64 0, .int .i64 11]) (by simp [results, Tryz.results7, go_sem, t2, lx]) rfl ⟨_, rfl, World.ownsRow_nil _ _ _ _, HSL.out _⟩
     ·have hR3 := HRR.out
      rw [if_pos rfl] at hR3
      subst hR3
      go_wp2_with fail
      refine bodyPost_ret (v := .tuple #[.agg #[.slice A2 ps.length c2], .int .i64 0, .int .i64 0]) (by simp [results, Tryz.results7, go_sem, t2, lx]) rfl ⟨_, rfl, ?_, HSL.out _⟩
      have hset : OwnPts (G + 1) (wx.setCell ⟨w.heap.size, 0, none⟩ (.slice A2 ps.length c2)) (.slice A2 ps.length c2) ps := by
       refine World.ownsRow.kept (show wx.ownsRow (G + 1) 39 3 _ _ _ from HOX.out) (grownBy_setCell' wx w.heap.size _) (.inr ?_)
       intro e
       have := (World.ownsRow.lt (show wx.ownsRow (G + 1) 39 3 _ _ _ from HOX.out) _ e).1
       omega
      exact World.ownsRow.mono hset (by omega)
end

end Go.Proofs.YtmglhhbfkohkcaaGreatDoor
