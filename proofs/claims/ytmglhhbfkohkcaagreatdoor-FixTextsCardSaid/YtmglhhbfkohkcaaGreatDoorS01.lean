/- Text of the specification. Its condition: the number is one of 64 bits. -/
import Derived.Lib.FieldsP
import Derived.Lib.DecodeN
import Derived.Lib.AtoiAll
import Derived.Lib.Atoi
import Derived.Lib.ItoaNum
import Derived.Lib.ItoaMem
import Derived.Lib.IndexMore
import Derived.Test.YtmglhhbfkohkcaaGreatDoorProg
import Derived.WalkKit
import Derived.WalkSpells
import Derived.WalkLawsBesides
import Derived.Lib.Hide
import Derived.Deep.DeepCutAuto
import Derived.Outline
import Derived.RegionTactic
import Derived.BigQuiet
import Derived.Deep.QuietTactic
import Derived.Laws.Small
import Derived.Laws.BytesArg
import Derived.Laws.Concat
import Derived.Deep.RegionHeld
import Derived.Deep.RegionHeldLaw
import Derived.Below
import Derived.Test.YtmglhhbfkohkcaaGreatDoorQ98
set_option linter.unusedVariables false
set_option linter.unusedSimpArgs false
set_option linter.constructorNameAsVariable false
namespace Go.Proofs.YtmglhhbfkohkcaaGreatDoor

section
open Go.Lib

def wordsGo : List UInt8 → List UInt8 → List (List UInt8)
  | cur, [] => if cur = [] then [] else [cur]
  | cur, b :: l => if b = 32 then (if cur = [] then wordsGo [] l else cur :: wordsGo [] l) else wordsGo (cur ++ [b]) l
def wordsS (l : List UInt8) : List (List UInt8) := wordsGo [] l
def spaceP (r : Nat) : Bool := r == 32
theorem wordsGo_skip : ∀ (x cur l : List UInt8), (∀ b ∈ x, b ≠ 32) → wordsGo cur (x ++ l) = wordsGo (cur ++ x) l
  | [], cur, l, _ => by simp
  | b :: x, cur, l, h => by
    rw [List.cons_append, wordsGo, if_neg (h b (.head _)), wordsGo_skip x (cur ++ [b]) l (fun c hc => h c (.tail _ hc)), List.append_assoc]
    rfl
theorem decode_space (n b0 b1 b2 b3 : Nat) : (decodeN n b0 b1 b2 b3).1 = 32 ↔ b0 = 32 := by
  unfold decodeN
  by_cases h : b0 < 128
  · rw [if_pos h]
  · rw [if_neg h]
    have : ¬ b0 = 32 := by omega
    simp only [this, iff_false]
    repeat' split
    all_goals (simp only; omega)
theorem decode_cont (n b0 b1 b2 b3 : Nat) : (1 < (decodeN n b0 b1 b2 b3).2 → b1 / 64 = 2) ∧ (2 < (decodeN n b0 b1 b2 b3).2 → b2 / 64 = 2) ∧ (3 < (decodeN n b0 b1 b2 b3).2 → b3 / 64 = 2) ∧ (decodeN n b0 b1 b2 b3).2 ≤ 4 ∧ 1 ≤ (decodeN n b0 b1 b2 b3).2 := by
  unfold decodeN
  repeat' split
  all_goals (simp only; omega)
theorem take_ne (l : List UInt8) (pos k : Nat) (P : UInt8 → Prop) (h : ∀ j, j < k → pos + j < l.length → P (l.getD (pos + j) 0)) : ∀ b ∈ (l.drop pos).take k, P b := by
  intro b hb
  obtain ⟨j, hj, e⟩ := List.mem_iff_getElem.1 hb
  rw [List.length_take, List.length_drop] at hj
  rw [List.getElem_take, List.getElem_drop] at e
  have q := h j (by omega) (by omega)
  rw [List.getD_eq_getElem?_getD, List.getElem?_eq_getElem (by omega)] at q
  rw [← e]
  exact q
theorem spansP_words (s : ByteArray) : ∀ (f pos : Nat) (st : Option Nat) (acc : List (Nat × Nat)), s.size ≤ pos + f → pos ≤ s.size → (∀ a, st = some a → a < pos) →
    acc.map (fun p => pieceU s.data.toList p.1 p.2) ++ wordsGo (openPiece s.data.toList st pos) (s.data.toList.drop pos) = (closeSpans s (spansFromP spaceP s f pos st acc)).map (fun p => pieceU s.data.toList p.1 p.2)
  | 0, pos, st, acc, h, hp, hst => by
    obtain rfl : pos = s.size := by omega
    have hd : s.data.toList.drop s.size = [] := List.drop_eq_nil_of_le (by rw [← size_eq]; exact Nat.le_refl _)
    rw [hd, wordsGo]
    cases st with
    | none => simp [spansFromP, closeSpans, openPiece]
    | some a =>
      have := pieceU_ne s.data.toList a s.size (hst a rfl) (by rw [← size_eq]; exact Nat.le_refl _)
      simp [spansFromP, closeSpans, openPiece, this]
  | f + 1, pos, st, acc, h, hp, hst => by
    by_cases hlt : pos < s.size
    · have hll : pos < s.data.toList.length := by rw [← size_eq]; exact hlt
      have hN := decode_N s pos
      have hw := width_pos s pos
      have hwn : pos + (Utf8.decode s pos).2 ≤ s.size := by
        have := decodeN_le_n' (s.size - pos) (s.get! pos).toNat (s.get! (pos + 1)).toNat (s.get! (pos + 2)).toNat (s.get! (pos + 3)).toNat (by omega)
        rw [← decode_at] at this
        omega
      have hsplit : s.data.toList.drop pos = (s.data.toList.drop pos).take (Utf8.decode s pos).2 ++ s.data.toList.drop (pos + (Utf8.decode s pos).2) := by
        rw [← List.drop_drop]; exact (List.take_append_drop _ _).symm
      simp only [spansFromP, if_pos hlt]
      cases hsp : spaceP (Utf8.decode s pos).1 with
      | true =>
        have h32 : (s.data.toList.getD pos 0).toNat = 32 := by
          unfold spaceP at hsp
          rw [hN] at hsp
          exact (decode_space _ _ _ _ _).1 (by simpa using hsp)
        have hb : s.data.toList.getD pos 0 = 32 := UInt8.toNat_inj.1 h32
        have hw1 : (Utf8.decode s pos).2 = 1 := by rw [hN, decodeN_ascii _ _ _ _ _ (by omega)]
        have hhd : s.data.toList.drop pos = 32 :: s.data.toList.drop (pos + 1) := by
          rw [List.drop_eq_getElem_cons hll]
          congr 1
          rw [← hb, List.getD_eq_getElem?_getD, List.getElem?_eq_getElem hll]
          rfl
        simp only [if_true]
        rw [hhd, hw1]
        cases st with
        | none =>
          have ih := spansP_words s f (pos + 1) none acc (by omega) (by omega) (fun a h => by cases h)
          rw [← ih]
          simp [openPiece, wordsGo]
        | some a =>
          have hpn := pieceU_ne s.data.toList a pos (hst a rfl) (by omega)
          have ih := spansP_words s f (pos + 1) none (acc ++ [(a, pos)]) (by omega) (by omega) (fun a h => by cases h)
          rw [← ih]
          simp [openPiece, wordsGo, hpn]
      | false =>
        simp only [Bool.false_eq_true, if_false]
        have hx : ∀ b ∈ (s.data.toList.drop pos).take (Utf8.decode s pos).2, b ≠ 32 := by
          refine take_ne _ _ _ _ fun j hj hl => ?_
          have hc := decode_cont (s.data.toList.length - pos) (s.data.toList.getD pos 0).toNat (s.data.toList.getD (pos + 1) 0).toNat (s.data.toList.getD (pos + 2) 0).toNat (s.data.toList.getD (pos + 3) 0).toNat
          rw [← hN] at hc
          intro e
          have e' : (s.data.toList.getD (pos + j) 0).toNat = 32 := by rw [e]; rfl
          rcases Nat.lt_or_ge j 1 with q | q
          · obtain rfl : j = 0 := by omega
            unfold spaceP at hsp
            rw [hN] at hsp
            have := (decode_space (s.data.toList.length - pos) (s.data.toList.getD pos 0).toNat (s.data.toList.getD (pos + 1) 0).toNat (s.data.toList.getD (pos + 2) 0).toNat (s.data.toList.getD (pos + 3) 0).toNat).2 e'
            rw [this] at hsp
            cases hsp
          · have hj3 : j = 1 ∨ j = 2 ∨ j = 3 := by omega
            rcases hj3 with rfl | rfl | rfl
            · have := hc.1 (by omega); omega
            · have := hc.2.1 (by omega); omega
            · have := hc.2.2.1 (by omega); omega
        rw [hsplit]
        rw [wordsGo_skip _ _ _ hx]
        cases st with
        | none =>
          have ih := spansP_words s f (pos + (Utf8.decode s pos).2) (some pos) acc (by omega) hwn (fun a h => by cases h; omega)
          have e : ([] : List UInt8) ++ (s.data.toList.drop pos).take (Utf8.decode s pos).2 = pieceU s.data.toList pos (pos + (Utf8.decode s pos).2) := by
            unfold pieceU
            rw [List.nil_append, Nat.add_sub_cancel_left]
          simp only [openPiece] at ih ⊢
          rw [e]
          exact ih
        | some a =>
          have ih := spansP_words s f (pos + (Utf8.decode s pos).2) (some a) acc (by omega) hwn (fun b h => by cases h; have := hst a rfl; omega)
          simp only [openPiece] at ih ⊢
          rw [pieceU_grow _ _ _ _ (Nat.le_of_lt (hst a rfl))]
          exact ih
    · obtain rfl : pos = s.size := by omega
      have hd : s.data.toList.drop s.size = [] := List.drop_eq_nil_of_le (by rw [← size_eq]; exact Nat.le_refl _)
      rw [hd, wordsGo, spansFromP_end _ s _ _ _ _ hlt]
      cases st with
      | none => simp [closeSpans, openPiece]
      | some a =>
        have := pieceU_ne s.data.toList a s.size (hst a rfl) (by rw [← size_eq]; exact Nat.le_refl _)
        simp [closeSpans, openPiece, this]
theorem fields_words (s : ByteArray) : (goFieldsP spaceP s).map (·.data.toList) = wordsS s.data.toList := by
  have h := spansP_words s s.size 0 none [] (by omega) (Nat.zero_le _) (fun a h => by cases h)
  simp only [List.map_nil, List.nil_append, openPiece, List.drop_zero] at h
  unfold wordsS goFieldsP spansOfP
  rw [h, List.map_map]
  congr 1
  funext p
  simp [pieceU]
end

section
open Go.Lib

theorem byte_of {d : Nat} (h : d < 10) : (UInt8.ofNat (48 + d)).toNat = 48 + d := by
  show (48 + d) % 256 = 48 + d
  omega
theorem digit_byte {d : Nat} (h : d < 10) : digitVal (UInt8.ofNat (48 + d)) = some d := by
  have e := byte_of h
  unfold digitVal
  rw [e, if_pos (by omega)]
  congr 1
  omega
theorem byte_digit {b : UInt8} {d : Nat} (h : digitVal b = some d) : b = UInt8.ofNat (48 + d) ∧ d < 10 := by
  obtain ⟨h1, h2, h3⟩ := digitVal_eq h
  refine ⟨?_, by omega⟩
  apply UInt8.toNat_inj.1
  rw [byte_of (by omega)]
  omega
theorem decFrom_append : ∀ (l m : List UInt8) (acc : Nat), decFrom acc (l ++ m) = (decFrom acc l).bind fun a => decFrom a m
  | [], m, acc => rfl
  | b :: l, m, acc => by
    rw [List.cons_append]
    simp only [decFrom]
    cases hd : digitVal b with
    | none => rfl
    | some d => exact decFrom_append l m _
theorem decFrom_digits (u : Nat) : decFrom 0 (decDigits u) = some u := by
  induction u using Nat.strongRecOn with
  | _ u ih =>
    by_cases h : u < 10
    · rw [decDigits_one h]
      unfold decFrom
      rw [digit_byte h]
      simp [decFrom]
    · rw [decDigits, dif_neg h, decFrom_append, ih (u / 10) (by omega)]
      show decFrom (u / 10) _ = _
      unfold decFrom
      rw [digit_byte (show u % 10 < 10 by omega)]
      simp only [decFrom, Option.some.injEq]
      omega
theorem decDigits_ne (u : Nat) : decDigits u ≠ [] := by
  rw [decDigits]
  split <;> simp
theorem digits_head {u : Nat} (h : 1 ≤ u) : ∃ b r, decDigits u = b :: r ∧ b ≠ 48 ∧ 48 ≤ b.toNat ∧ b.toNat ≤ 57 := by
  induction u using Nat.strongRecOn with
  | _ u ih =>
    by_cases g : u < 10
    · have e := byte_of g
      refine ⟨_, [], decDigits_one g, fun q => ?_, by omega, by omega⟩
      have q2 := congrArg UInt8.toNat q
      rw [e] at q2
      have : (48 : UInt8).toNat = 48 := rfl
      omega
    · obtain ⟨b, r, e, h1, h2⟩ := ih (u / 10) (by omega) (by omega)
      refine ⟨b, r ++ [UInt8.ofNat (48 + u % 10)], ?_, h1, h2⟩
      rw [decDigits, dif_neg g, e]
      rfl
theorem digits_long {u : Nat} (h : 1 < (decDigits u).length) : 10 ≤ u := by
  refine Nat.not_lt.1 fun g => ?_
  rw [decDigits_one g] at h
  simp at h
theorem digits_first (u : Nat) : ∃ b r, decDigits u = b :: r ∧ 48 ≤ b.toNat ∧ b.toNat ≤ 57 := by
  rcases Nat.lt_or_ge 0 u with h | h
  · obtain ⟨b, r, e, _, h2⟩ := digits_head h
    exact ⟨b, r, e, h2⟩
  · obtain rfl : u = 0 := by omega
    exact ⟨48, [], by rw [decDigits_one (by omega)]; rfl, by decide, by decide⟩
theorem digits_of : ∀ (k : Nat) (m : List UInt8) (v : Nat), m.length = k → m ≠ [] → (1 < m.length → m.getD 0 0 ≠ 48) → decFrom 0 m = some v → decDigits v = m
  | 0, m, v, hk, hm, _, _ => absurd (List.eq_nil_of_length_eq_zero hk) hm
  | k + 1, m, v, hk, hm, h0, h => by
    obtain ⟨m', b, rfl⟩ : ∃ m' b, m = m' ++ [b] := ⟨m.dropLast, m.getLast hm, (List.dropLast_concat_getLast hm).symm⟩
    have hk' : m'.length = k := by rw [List.length_append] at hk; simpa using hk
    rw [decFrom_append] at h
    cases hv : decFrom 0 m' with
    | none => rw [hv] at h; cases h
    | some v' =>
      rw [hv] at h
      have h' : decFrom v' [b] = some v := h
      unfold decFrom at h'
      cases hd : digitVal b with
      | none => rw [hd] at h'; cases h'
      | some d =>
        rw [hd] at h'
        simp only [decFrom, Option.some.injEq] at h'
        obtain ⟨hb, hd10⟩ := byte_digit hd
        by_cases hn : m' = []
        · subst hn
          simp only [decFrom, Option.some.injEq] at hv
          subst hv
          have : v = d := by omega
          rw [this, decDigits_one hd10, hb]
          rfl
        · have hlen : 0 < m'.length := List.length_pos_iff.2 hn
          have hh : (m' ++ [b]).getD 0 0 = m'.getD 0 0 := by
            rw [List.getD_eq_getElem?_getD, List.getD_eq_getElem?_getD, List.getElem?_append_left hlen]
          have hne : m'.getD 0 0 ≠ 48 := by rw [← hh]; exact h0 (by rw [List.length_append]; simp; omega)
          have ih := digits_of k m' v' hk' hn (fun _ => hne) hv
          have hv1 : 1 ≤ v' := by
            refine Nat.not_lt.1 fun q => hne ?_
            have : v' = 0 := by omega
            rw [← ih, this, decDigits_one (by omega)]
            rfl
          rw [decDigits, dif_neg (by omega), show v / 10 = v' by omega, show v % 10 = d by omega, ih, hb]
theorem nDigits_le : ∀ (k u : Nat), nDigits u ≤ k + 1 ↔ u < 10 ^ (k + 1)
  | 0, u => by
    by_cases h : u < 10
    · rw [nDigits_small h]; simp; omega
    · rw [nDigits_big h]
      have : 1 ≤ nDigits (u / 10) := by rw [nDigits]; split <;> omega
      simp
      omega
  | k + 1, u => by
    have ih := nDigits_le k (u / 10)
    have e : 10 ^ (k + 1 + 1) = 10 * 10 ^ (k + 1) := by rw [Nat.pow_succ, Nat.mul_comm]
    by_cases h : u < 10
    · rw [nDigits_small h]
      have : 0 < 10 ^ (k + 1) := Nat.pow_pos (by omega)
      constructor
      · intro _; omega
      · intro _; omega
    · rw [nDigits_big h]
      constructor
      · intro q; have := ih.1 (by omega); omega
      · intro q; have := ih.2 (by omega); omega
def magS (m : List UInt8) (digits : Nat) : Option Nat := if m.length < 1 ∨ digits < m.length ∨ (1 < m.length ∧ m.getD 0 0 = 48) then none else decFrom 0 m
def numberS (l : List UInt8) (digits : Nat) (signed : Bool) : Option Int :=
  if signed = true ∧ 1 < l.length ∧ l.getD 0 0 = 45 ∧ l.getD 1 0 ≠ 48 then Option.map (fun (u : Nat) => -(u : Int)) (magS l.tail digits) else Option.map (fun (u : Nat) => (u : Int)) (magS l digits)
theorem mag_iff {m : List UInt8} {k u : Nat} : magS m k = some u ↔ m = decDigits u ∧ m.length ≤ k := by
  unfold magS
  constructor
  · intro h
    split at h
    · cases h
    · rename_i g
      have h1 : m ≠ [] := fun e => g (.inl (by rw [e]; simp))
      exact ⟨(digits_of m.length m u rfl h1 (fun q e => g (.inr (.inr ⟨q, e⟩))) h).symm, Nat.not_lt.1 fun e => g (.inr (.inl e))⟩
  · rintro ⟨e, h⟩
    rw [if_neg, e, decFrom_digits]
    rintro (q | q | ⟨q, q2⟩)
    · have := List.length_pos_iff.2 (decDigits_ne u)
      rw [e] at q
      omega
    · omega
    · rw [e] at q q2
      obtain ⟨b, r, e2, h1, _⟩ := digits_head (show 1 ≤ u by have := digits_long q; omega)
      rw [e2] at q2
      exact h1 q2
theorem itoa_pos {n : Int} (h : 0 ≤ n) : itoa n = decDigits n.toNat := by unfold itoa; rw [if_neg (by omega)]
theorem itoa_minus {n : Int} (h : n < 0) : itoa n = 45 :: decDigits n.natAbs := by unfold itoa; rw [if_pos h]
theorem digits_len10 (u : Nat) : (decDigits u).length ≤ 10 ↔ u ≤ 9999999999 := by
  rw [decDigits_length, nDigits_le 9 u]
  omega
theorem number_iff {l : List UInt8} {n : Int} : numberS l 10 true = some n ↔ l = itoa n ∧ -9999999999 ≤ n ∧ n ≤ 9999999999 := by
  unfold numberS
  by_cases g : True ∧ 1 < l.length ∧ l.getD 0 0 = 45 ∧ l.getD 1 0 ≠ 48
  · rw [if_pos ⟨rfl, g.2⟩]
    obtain ⟨_, g1, g2, g3⟩ := g
    match l, g1 with
    | a :: c :: t, _ =>
      have ha : a = 45 := g2
      have hc : c ≠ 48 := g3
      subst ha
      rw [List.tail_cons, Option.map_eq_some_iff]
      constructor
      · rintro ⟨u, hu, rfl⟩
        obtain ⟨e, h⟩ := mag_iff.1 hu
        have hu1 : 1 ≤ u := by
          refine Nat.not_lt.1 fun q => hc ?_
          have : u = 0 := by omega
          rw [this, decDigits_one (by omega)] at e
          injection e
        rw [e] at h
        have h10 := (digits_len10 u).1 h
        refine ⟨?_, by omega, by omega⟩
        rw [itoa_minus (by omega), e]
        congr 2
        omega
      · rintro ⟨e, h1, h2⟩
        by_cases hn : n < 0
        · rw [itoa_minus hn] at e
          injection e with _ e
          refine ⟨n.natAbs, mag_iff.2 ⟨e, ?_⟩, by omega⟩
          rw [e]; exact (digits_len10 _).2 (by omega)
        · rw [itoa_pos (by omega)] at e
          obtain ⟨b, r, e2, b1, b2⟩ := digits_first n.toNat
          rw [e2] at e
          injection e with e3 _
          rw [← e3] at b1
          exact absurd b1 (by decide)
  · rw [if_neg (fun q => g ⟨trivial, q.2⟩)]
    rw [Option.map_eq_some_iff]
    constructor
    · rintro ⟨u, hu, rfl⟩
      obtain ⟨e, h⟩ := mag_iff.1 hu
      rw [e] at h
      have h10 := (digits_len10 u).1 h
      exact ⟨by rw [itoa_pos (by omega), e]; rfl, by omega, by omega⟩
    · rintro ⟨e, h1, h2⟩
      by_cases hn : n < 0
      · rw [itoa_minus hn] at e
        obtain ⟨b, r, e2, b1, _⟩ := digits_head (show 1 ≤ n.natAbs by omega)
        rw [e2] at e
        refine absurd ⟨trivial, ?_, ?_, ?_⟩ g
        · rw [e]; simp
        · rw [e]; rfl
        · rw [e]; exact b1
      · rw [itoa_pos (by omega)] at e
        exact ⟨n.toNat, mag_iff.2 ⟨e, by rw [e]; exact (digits_len10 _).2 (by omega)⟩, by omega⟩
theorem number_pos {l : List UInt8} {n : Int} : numberS l 10 false = some n ↔ numberS l 10 true = some n ∧ 0 ≤ n := by
  rw [number_iff]
  unfold numberS
  rw [if_neg (by simp)]
  rw [Option.map_eq_some_iff]
  constructor
  · rintro ⟨u, hu, rfl⟩
    obtain ⟨e, h⟩ := mag_iff.1 hu
    rw [e] at h
    have h10 := (digits_len10 u).1 h
    exact ⟨⟨by rw [itoa_pos (by omega), e]; rfl, by omega, by omega⟩, by omega⟩
  · rintro ⟨⟨e, h1, h2⟩, h3⟩
    rw [itoa_pos h3] at e
    exact ⟨n.toNat, mag_iff.2 ⟨e, by rw [e]; exact (digits_len10 _).2 (by omega)⟩, by omega⟩
theorem decFrom_le : ∀ (l : List UInt8) (acc v : Nat), decFrom acc l = some v → acc ≤ v
  | [], acc, v, h => by
    simp only [decFrom, Option.some.injEq] at h; omega
  | b :: l, acc, v, h => by
    unfold decFrom at h
    cases hd : digitVal b with
    | none => rw [hd] at h; cases h
    | some d => rw [hd] at h; have := decFrom_le l _ v h; omega
theorem parse_of : ∀ (l : List UInt8) (acc v : Nat), decFrom acc l = some v → v < 1000000000000000000 → parseUint10 acc l = .ok v
  | [], acc, v, h, _ => by
    simp only [decFrom, Option.some.injEq] at h
    rw [parseUint10, h]
  | b :: l, acc, v, h, hv => by
    unfold decFrom at h
    cases hd : digitVal b with
    | none => rw [hd] at h; cases h
    | some d =>
      rw [hd] at h
      obtain ⟨h1, h2, h3⟩ := digitVal_eq hd
      have hle := decFrom_le l _ v h
      rw [parseUint10, if_pos ⟨h1, h2⟩, if_neg (by omega), if_neg (by omega), ← h3]
      exact parse_of l _ v h hv
theorem atoi_itoa {n : Int} (h1 : -9999999999 ≤ n) (h2 : n ≤ 9999999999) : atoiAll (itoa n) = .ok n := by
  by_cases hn : n < 0
  · rw [itoa_minus hn]
    unfold atoiAll
    have hp : parseMag (decDigits n.natAbs) = .ok n.natAbs := by
      unfold parseMag
      rw [if_neg (decDigits_ne _)]
      exact parse_of _ 0 _ (decFrom_digits _) (by omega)
    have e45 : (45 : UInt8).toNat = 45 := rfl
    simp only [e45, if_true, or_true, hp, not_true_eq_false, false_and, if_false, true_and]
    rw [if_neg (by omega)]
    congr 1
    omega
  · rw [itoa_pos (by omega)]
    obtain ⟨b, r, e, b1, b2⟩ := digits_first n.toNat
    have hp : parseMag (b :: r) = .ok n.toNat := by
      rw [← e]
      unfold parseMag
      rw [if_neg (decDigits_ne _)]
      exact parse_of _ 0 _ (decFrom_digits _) (by omega)
    rw [e]
    unfold atoiAll
    dsimp only
    rw [if_neg (by omega), hp]
    dsimp only
    rw [if_neg (by omega), if_neg (by omega), if_neg (by omega)]
    congr 1
    omega
theorem number_taken (l : List UInt8) (n : Int) : (atoiAll l = .ok n ∧ itoa n = l ∧ -9999999999 ≤ n ∧ n ≤ 9999999999) ↔ numberS l 10 true = some n := by
  rw [number_iff]
  constructor
  · rintro ⟨_, h, h1, h2⟩; exact ⟨h.symm, h1, h2⟩
  · rintro ⟨h, h1, h2⟩; exact ⟨by rw [h]; exact atoi_itoa h1 h2, h.symm, h1, h2⟩
theorem itoa_big {n : Int} (h : 10 ≤ n) : itoa n = itoa (n / 10) ++ [UInt8.ofNat (48 + (n % 10).toNat)] := by
  rw [itoa_pos (by omega), itoa_pos (by omega), decDigits, dif_neg (by omega)]
  rw [show n.toNat / 10 = (n / 10).toNat by omega, show n.toNat % 10 = (n % 10).toNat by omega]
theorem itoa_one {n : Int} (h0 : 0 ≤ n) (h : n < 10) : itoa n = [UInt8.ofNat (48 + n.toNat)] := by
  rw [itoa_pos h0, decDigits_one (by omega)]
theorem itoa_small_neg {n : Int} (h : n < 0) : itoa n = 45 :: itoa (-n) := by
  rw [itoa_minus h, itoa_pos (by omega), show n.natAbs = (-n).toNat by omega]
theorem itoa_big_neg {n : Int} (h : n < -9) : itoa n = itoa (n.tdiv 10) ++ [UInt8.ofNat (48 + (-(n.tmod 10)).toNat)] := by
  obtain ⟨m, rfl⟩ : ∃ m : Int, n = -m := ⟨-n, by omega⟩
  have e1 : (-m).tdiv 10 = -(m / 10) := by rw [Int.neg_tdiv, Int.tdiv_eq_ediv_of_nonneg (by omega)]
  have e2 : (-m).tmod 10 = -(m % 10) := by rw [Int.neg_tmod, Int.tmod_eq_emod_of_nonneg (by omega)]
  rw [e1, e2, itoa_minus (show -m < 0 by omega), itoa_minus (show -(m / 10) < 0 by omega), decDigits, dif_neg (by omega)]
  rw [show (-m).natAbs / 10 = (-(m / 10)).natAbs by omega, show (-m).natAbs % 10 = (- -(m % 10)).toNat by omega]
  rfl
end

section
open Go.Lib

def linesGo : List UInt8 → List UInt8 → List (List UInt8)
  | cur, [] => if cur = [] then [] else [cur]
  | cur, b :: l => if b = 10 then cur :: linesGo [] l else linesGo (cur ++ [b]) l
def linesS (l : List UInt8) : List (List UInt8) := linesGo [] l
theorem index_nl (b : UInt8) (l : List UInt8) : index (b :: l) [10] = if b = 10 then 0 else if index l [10] == -1 then -1 else index l [10] + 1 := by
  rw [index]
  by_cases h : b = 10
  · rw [if_pos h, if_pos (by rw [h]; rfl)]
  · rw [if_neg h, if_neg (by simp [List.isPrefixOf]; exact fun e => h e.symm)]
theorem cut_nil : cut [] [10] = ([], [], false) := rfl
theorem cut_nl (l : List UInt8) : (cut (10 :: l) [10]).1 = [] ∧ (cut (10 :: l) [10]).2.1 = l := by
  unfold cut
  rw [index_nl, if_pos rfl, if_pos (Int.le_refl _)]
  exact ⟨rfl, rfl⟩
theorem cut_cons {b : UInt8} (h : b ≠ 10) (l : List UInt8) : (cut (b :: l) [10]).1 = b :: (cut l [10]).1 ∧ (cut (b :: l) [10]).2.1 = (cut l [10]).2.1 := by
  have hg := index_ge l [10]
  by_cases g : index l [10] = -1
  · have hi : index (b :: l) [10] = -1 := by rw [index_nl, if_neg h, if_pos (by rw [g]; rfl)]
    unfold cut
    rw [hi, g, if_neg (by omega), if_neg (by omega)]
    exact ⟨rfl, rfl⟩
  · have hi : index (b :: l) [10] = index l [10] + 1 := by rw [index_nl, if_neg h, if_neg (by simpa using g)]
    unfold cut
    rw [hi, if_pos (by omega), if_pos (by omega)]
    have e : (index l [10] + 1).toNat = (index l [10]).toNat + 1 := by omega
    rw [e]
    exact ⟨rfl, rfl⟩
theorem linesGo_cut : ∀ (s cur : List UInt8), (s ≠ [] ∨ cur ≠ []) → linesGo cur s = (cur ++ (cut s [10]).1) :: linesGo [] (cut s [10]).2.1
  | [], cur, h => by
    have hc : cur ≠ [] := by rcases h with h | h; exact absurd rfl h; exact h
    rw [cut_nil, linesGo, if_neg hc]
    simp [linesGo]
  | b :: l, cur, _ => by
    by_cases g : b = 10
    · subst g
      rw [(cut_nl l).1, (cut_nl l).2, linesGo, if_pos rfl, List.append_nil]
    · rw [(cut_cons g l).1, (cut_cons g l).2, linesGo, if_neg g, linesGo_cut l (cur ++ [b]) (.inr (by simp)), List.append_assoc]
      rfl
theorem lines_cut {s : List UInt8} (h : s ≠ []) : linesS s = (cut s [10]).1 :: linesS (cut s [10]).2.1 := by
  have q := linesGo_cut s [] (.inl h)
  rw [List.nil_append] at q
  exact q
theorem cut_shorter : ∀ (s : List UInt8), s ≠ [] → (cut s [10]).2.1.length < s.length
  | [], h => absurd rfl h
  | b :: l, _ => by
    by_cases g : b = 10
    · subst g; rw [(cut_nl l).2]; simp
    · rw [(cut_cons g l).2]
      by_cases hl : l = []
      · subst hl; rw [cut_nil]; simp
      · have := cut_shorter l hl; simp only [List.length_cons]; omega
theorem itoa_bytes (n : Int) : ∀ b ∈ itoa n, b = 45 ∨ (48 ≤ b.toNat ∧ b.toNat ≤ 57) := by
  have hd : ∀ u : Nat, ∀ b ∈ decDigits u, 48 ≤ b.toNat ∧ b.toNat ≤ 57 := fun u b hb => by
    obtain ⟨k, hk, e⟩ := List.mem_iff_getElem.1 hb
    obtain ⟨d, hd⟩ := digit_of_decFrom _ 0 u (decFrom_digits u) k b (by rw [List.getElem?_eq_getElem hk, e])
    obtain ⟨h1, h2, _⟩ := digitVal_eq hd
    exact ⟨h1, h2⟩
  intro b hb
  by_cases h : n < 0
  · rw [itoa_minus h] at hb
    rcases List.mem_cons.1 hb with e | hb
    · exact .inl e
    · exact .inr (hd _ b hb)
  · rw [itoa_pos (by omega)] at hb
    exact .inr (hd _ b hb)
theorem itoa_ne (n : Int) : itoa n ≠ [] := by
  by_cases h : n < 0
  · rw [itoa_minus h]; simp
  · rw [itoa_pos (by omega)]; exact decDigits_ne _
theorem itoa_not (n : Int) (c : UInt8) (hc : c ≠ 45) (hc2 : c.toNat < 48 ∨ 57 < c.toNat) : ∀ b ∈ itoa n, b ≠ c := by
  intro b hb e
  subst e
  rcases itoa_bytes n b hb with h | h
  · exact hc h
  · omega
def lineS (p : Int × Int × Int) : List UInt8 := itoa p.1 ++ 32 :: (itoa p.2.1 ++ 32 :: itoa p.2.2)
def printL : List (Int × Int × Int) → List UInt8
  | [] => []
  | p :: r => lineS p ++ 10 :: printL r
theorem printL_snoc : ∀ (l : List (Int × Int × Int)) (p : Int × Int × Int), printL (l ++ [p]) = printL l ++ (lineS p ++ [10])
  | [], p => by simp [printL]
  | q :: l, p => by rw [List.cons_append, printL, printL_snoc l p, printL, List.append_assoc, List.cons_append]
theorem wordsGo_last (x cur : List UInt8) (h : ∀ b ∈ x, b ≠ 32) (hx : cur ++ x ≠ []) : wordsGo cur x = [cur ++ x] := by
  have q := wordsGo_skip x cur [] h
  rw [List.append_nil] at q
  rw [q, wordsGo, if_neg hx]
theorem words_line (p : Int × Int × Int) : wordsS (lineS p) = [itoa p.1, itoa p.2.1, itoa p.2.2] := by
  have n32 : ∀ n, ∀ b ∈ itoa n, b ≠ 32 := fun n => itoa_not n 32 (by decide) (.inl (by decide))
  unfold wordsS lineS
  rw [wordsGo_skip _ _ _ (n32 p.1), List.nil_append, wordsGo, if_pos rfl, if_neg (itoa_ne _), wordsGo_skip _ _ _ (n32 p.2.1), List.nil_append, wordsGo, if_pos rfl, if_neg (itoa_ne _),
    wordsGo_last _ _ (n32 p.2.2) (by simpa using itoa_ne _), List.nil_append]
theorem linesGo_skip : ∀ (x cur l : List UInt8), (∀ b ∈ x, b ≠ 10) → linesGo cur (x ++ l) = linesGo (cur ++ x) l
  | [], cur, l, _ => by simp
  | b :: x, cur, l, h => by
    rw [List.cons_append, linesGo, if_neg (h b (.head _)), linesGo_skip x (cur ++ [b]) l (fun c hc => h c (.tail _ hc)), List.append_assoc]
    rfl
theorem line_bytes (p : Int × Int × Int) : ∀ b ∈ lineS p, b ≠ 10 := by
  have n10 : ∀ n, ∀ b ∈ itoa n, b ≠ 10 := fun n => itoa_not n 10 (by decide) (.inl (by decide))
  intro b hb
  unfold lineS at hb
  simp only [List.mem_append, List.mem_cons] at hb
  rcases hb with h | h | h | h | h
  · exact n10 _ b h
  · rw [h]; decide
  · exact n10 _ b h
  · rw [h]; decide
  · exact n10 _ b h
theorem lines_print : ∀ l : List (Int × Int × Int), linesS (printL l) = l.map lineS
  | [] => rfl
  | p :: r => by
    have ih := lines_print r
    unfold linesS at ih ⊢
    rw [printL, linesGo_skip _ _ _ (line_bytes p), List.nil_append, linesGo, if_pos rfl, ih]
    rfl
theorem line_head (p : Int × Int × Int) : ∃ b r, lineS p = b :: r ∧ b ≠ 35 := by
  have h35 := itoa_not p.1 35 (by decide) (.inl (by decide))
  unfold lineS
  match hi : itoa p.1 with
  | [] => exact absurd hi (itoa_ne _)
  | b :: r => exact ⟨b, _, rfl, h35 b (by rw [hi]; exact .head _)⟩
end

section
open Go.RowKit Go.Lib

theorem getD_at (s : ByteArray) (i : Nat) (h : i < s.size) : s.data.toList.getD i 0 = s[i] := by
  have h' : i < s.data.toList.length := by rw [← size_eq]; exact h
  rw [List.getD_eq_getElem?_getD, List.getElem?_eq_getElem h']
  rfl
theorem byte_is (b : UInt8) (k : Nat) (hk : k < 256) : ((b.toNat : Int) = (k : Int)) ↔ b = UInt8.ofNat k := by
  rw [← UInt8.toNat_inj]
  have : (UInt8.ofNat k).toNat = k := by show k % 256 = k; omega
  rw [this]
  omega
def signT (s : ByteArray) (sg : Bool) : Bool := decide (sg = true ∧ 1 < s.data.toList.length ∧ s.data.toList.getD 0 0 = 45 ∧ s.data.toList.getD 1 0 ≠ 48)
theorem sign_off (s : ByteArray) : signT s false = false := rfl
theorem sign_yes {s : ByteArray} (h1 : 1 < s.size) (h : (s[0].toNat : Int) = 45) : signT s true = ((s[1].toNat : Int) != 48) := by
  unfold signT
  rw [getD_at s 0 (by omega), getD_at s 1 h1, ← size_eq]
  have e0 : s[0] = 45 := (byte_is _ 45 (by omega)).1 h
  have e1 := byte_is s[1] 48 (by omega)
  rw [Bool.eq_iff_iff, decide_eq_true_eq, bne_iff_ne]
  constructor
  · rintro ⟨_, _, _, q⟩ q2
    exact q (e1.1 q2)
  · intro q
    exact ⟨rfl, h1, e0, fun q2 => q (e1.2 q2)⟩
theorem sign_no {s : ByteArray} (h1 : 1 < s.size) (h : ¬(s[0].toNat : Int) = 45) : signT s true = false := by
  unfold signT
  rw [getD_at s 0 (by omega)]
  refine decide_eq_false fun q => h ((byte_is _ 45 (by omega)).2 q.2.2.1)
theorem sign_short {s : ByteArray} {g : Bool} (h1 : (s.size : Int) ≤ 1) : signT s g = false := by
  unfold signT
  rw [← size_eq]
  exact decide_eq_false fun q => by omega
def badT (s : ByteArray) : Bool := decide (s.data.toList.length < 1 ∨ 10 < s.data.toList.length ∨ (1 < s.data.toList.length ∧ s.data.toList.getD 0 0 = 48))
theorem bad_short {s : ByteArray} (h : (s.size : Int) < 1) : badT s = true := by
  unfold badT; rw [← size_eq]; exact decide_eq_true (by omega)
theorem bad_long {s : ByteArray} (h : 10 < (s.size : Int)) : badT s = true := by
  unfold badT; rw [← size_eq]; exact decide_eq_true (by omega)
theorem bad_one {s : ByteArray} (h : ¬(s.size : Int) < 1) (h1 : (s.size : Int) ≤ 1) : badT s = false := by
  unfold badT; rw [← size_eq]; exact decide_eq_false (by omega)
theorem bad_mid {s : ByteArray} (h : 1 < (s.size : Int)) (h1 : (s.size : Int) ≤ 10) (h0 : 0 < s.size) : badT s = ((s[0].toNat : Int) == 48) := by
  unfold badT
  have e0 := byte_is s[0] 48 (by omega)
  rw [getD_at s 0 h0, ← size_eq, Bool.eq_iff_iff, decide_eq_true_eq, beq_iff_eq]
  refine Iff.trans ?_ e0.symm
  show _ ↔ s[0] = 48
  constructor
  · rintro (q | q | q)
    · omega
    · omega
    · exact q.2
  · intro q
    exact .inr (.inr ⟨by omega, q⟩)
def NumOut (o : Option Int) (w : World) (e : Ending) (w' : World) : Prop := e = .returned (.tuple #[.int .i64 (o.getD 0), .bool o.isSome]) ∧ w' = w
def restOf (s : ByteArray) (t : Bool) : ByteArray := if t then s.extract 1 s.size else s
def signOf (t : Bool) : Int := if t then -1 else 1
theorem rest_list (s : ByteArray) : (s.extract 1 s.size).data.toList = s.data.toList.tail := by
  rw [ByteArray.data_extract]
  simp [Array.toList_extract, List.extract_eq_take_drop]
  rw [List.take_of_length_le (by rw [List.length_tail, ← size_eq]; omega)]
theorem number_rest (s : ByteArray) (sg : Bool) : numberS s.data.toList 10 sg = Option.map (fun (u : Nat) => signOf (signT s sg) * (u : Int)) (if badT (restOf s (signT s sg)) = true then none else decFrom 0 (restOf s (signT s sg)).data.toList) := by
  have hm : ∀ m : ByteArray, magS m.data.toList 10 = if badT m = true then none else decFrom 0 m.data.toList := by
    intro m
    unfold magS badT
    simp only [decide_eq_true_eq]
  by_cases h : sg = true ∧ 1 < s.data.toList.length ∧ s.data.toList.getD 0 0 = 45 ∧ s.data.toList.getD 1 0 ≠ 48
  · have ht : signT s sg = true := decide_eq_true h
    unfold numberS
    rw [if_pos h, ht, ← hm]
    show _ = Option.map _ (magS (s.extract 1 s.size).data.toList 10)
    rw [rest_list]
    congr 1
    funext u
    show -(u : Int) = -1 * (u : Int)
    omega
  · have ht : signT s sg = false := decide_eq_false h
    unfold numberS
    rw [if_neg h, ht, ← hm]
    show _ = Option.map _ (magS s.data.toList 10)
    congr 1
    funext u
    show (u : Int) = 1 * (u : Int)
    omega
theorem dec_take {m : ByteArray} {k v : Nat} (h : decFrom 0 (m.data.toList.take k) = some v) (hk : k < m.size) :
    decFrom 0 (m.data.toList.take (k + 1)) = (digitVal m[k]).map (fun d => v * 10 + d) ∧ (digitVal m[k] = none → decFrom 0 m.data.toList = none) := by
  have hk' : k < m.data.toList.length := by rw [← size_eq]; exact hk
  have e : m.data.toList.take (k + 1) = m.data.toList.take k ++ [m[k]] := by
    rw [List.take_succ_eq_append_getElem hk']; rfl
  have e2 : m.data.toList = m.data.toList.take k ++ m[k] :: m.data.toList.drop (k + 1) := by
    have e3 : m.data.toList.drop k = m[k] :: m.data.toList.drop (k + 1) := List.drop_eq_getElem_cons hk'
    rw [← e3, List.take_append_drop]
  constructor
  · rw [e, decFrom_append, h]
    show decFrom v [m[k]] = _
    unfold decFrom
    cases digitVal m[k] <;> rfl
  · intro q
    rw [e2, decFrom_append, h]
    show decFrom v (m[k] :: _) = _
    unfold decFrom
    rw [q]
theorem dec_all {m : ByteArray} {k v : Nat} (h : decFrom 0 (m.data.toList.take k) = some v) (hk : ¬ k < m.size) : decFrom 0 m.data.toList = some v := by
  rw [List.take_of_length_le (by rw [← size_eq]; omega)] at h
  exact h
theorem decFrom_lt : ∀ (l : List UInt8) (acc v : Nat), decFrom acc l = some v → v < (acc + 1) * 10 ^ l.length
  | [], acc, v, h => by
    simp only [decFrom, Option.some.injEq] at h; simp; omega
  | b :: l, acc, v, h => by
    unfold decFrom at h
    cases hd : digitVal b with
    | none => rw [hd] at h; cases h
    | some d =>
      rw [hd] at h
      have hd10 := (digitVal_eq hd)
      have := decFrom_lt l _ v h
      rw [List.length_cons, Nat.pow_succ]
      refine Nat.lt_of_lt_of_le this ?_
      rw [Nat.mul_comm (10 ^ l.length) 10, ← Nat.mul_assoc]
      exact Nat.mul_le_mul_right _ (by omega)
set_option maxRecDepth 100000 in
set_option maxHeartbeats 4000000 in
theorem rNumber_any (s : ByteArray) (sg : Bool) (w : World) (hs : s.size ≤ 1000000) :
  Calls Tryz.prog 20 #[.string s, .int .i64 10, .bool sg] w (NumOut (numberS s.data.toList 10 sg) w) := by
 rw [number_rest]
 obtain ⟨t, ht⟩ : ∃ t, signT s sg = t := ⟨_, rfl⟩
 rw [ht]
 obtain ⟨m, hm⟩ : ∃ m, restOf s t = m := ⟨_, rfl⟩
 obtain ⟨sn, hsn⟩ : ∃ sn, signOf t = sn := ⟨_, rfl⟩
 obtain ⟨bd, hbd⟩ : ∃ bd, badT m = bd := ⟨_, rfl⟩
 have hms : m.size ≤ 1000000 := by
  rw [← hm]; unfold restOf; split
  ·rw [ByteArray.size_extract]; omega
  ·exact hs
 have hsn1 : sn = 1 ∨ sn = -1 := by rw [← hsn]; cases t <;> simp [signOf]
 rw [hm, hsn, hbd]
 obtain ⟨R, hR⟩ : ∃ R, Option.map (fun (u : Nat) => sn * (u : Int)) (if bd = true then none else decFrom 0 m.data.toList) = R := ⟨_, rfl⟩
 rw [hR]
 have HT := Lib.hid ht
 have HM := Lib.hid hm
 have HS := Lib.hid hsn
 have HB := Lib.hid hbd
 have HR := Lib.hid hR
 clear ht hm hsn hbd hR
 go_enter Tryz.func20, Tryz.ntmps20
 go_upto_region 2 with fail
 go_cut [26] (fun b wx => b = .bool t ∧ wx = w)
 case first =>
  cases sg
  ·go_wp2_with fail
   go_meet
   exact ⟨by rw [← HT.out]; rfl, rfl⟩
  ·go_wp2_with fail
   all_goals
    go_meet
    refine ⟨?_, rfl⟩
    rw [← HT.out]
   ·rename_i g1 g2 g3
    rw [sign_yes (by omega) g3]
   ·rename_i g1 g2 g3
    rw [sign_no (by omega) g3]
   ·rename_i g1
    rw [sign_short g1]
 case rest =>
  obtain ⟨rfl, hw⟩ := hcut
  rename World => u1
  subst hw
  have hsz : t = true → (1 : Int) < s.size := by
   intro q
   have e := HT.out
   rw [q] at e
   have e2 := (of_decide_eq_true e).2.1
   rw [← size_eq] at e2
   omega
  clear HT
  go_upto_if 26 with fail
  go_cut [0, 8] (fun a b wx => a = .string m ∧ b = .int .i64 sn ∧ wx = u1)
  case first =>
   cases t
   ·go_wp2_with fail
    go_meet
    exact ⟨by rw [← HM.out]; rfl, by rw [← HS.out]; rfl, rfl⟩
   ·have h1 := hsz rfl
    have h2 : (1 : Int) ≤ s.size := by omega
    have h3 : 1 ≤ s.size := by omega
    clear hsz
    go_wp2_with fail
    all_goals
     go_meet
     exact ⟨by rw [← HM.out]; rfl, by rw [← HS.out]; rfl, rfl⟩
  case rest =>
   obtain ⟨rfl, rfl, hw⟩ := hcut
   rename World => u2
   subst hw
   clear HM HS
   go_upto_region 5 with fail
   go_cut [47] (fun b wx => b = .bool bd ∧ wx = u2)
   case first =>
    go_wp2_with fail
    all_goals
     go_meet
     refine ⟨?_, rfl⟩
     rw [← HB.out]
    ·rename_i g1 g2 g3 g4
     have e1 : decide ((m.size : Int) < 1) = false := decide_eq_false (by omega)
     have e2 : decide (10 < (m.size : Int)) = false := decide_eq_false (by omega)
     rw [bad_mid (by omega) (by omega) g4, e1, e2]
     rfl
    ·rename_i g1 g2 g3
     have e1 : decide ((m.size : Int) < 1) = false := decide_eq_false (by omega)
     have e2 : decide (10 < (m.size : Int)) = false := decide_eq_false (by omega)
     rw [bad_one (by omega) (by omega), e1, e2]
     rfl
    ·rename_i g1 g2
     rw [bad_long (by omega)]
    ·rename_i g1
     rw [bad_short (by omega)]
   case rest =>
    obtain ⟨rfl, hw⟩ := hcut
    rename World => u3
    subst hw
    have hb := HB.out
    clear HB hsz
    cases bd
    ·have hm10 : m.size ≤ 10 := by
      refine Nat.not_lt.1 fun q => ?_
      rw [bad_long (by omega)] at hb
      cases hb
     have HR2 := Lib.hid (show Option.map (fun (u : Nat) => sn * (u : Int)) (decFrom 0 m.data.toList) = R from HR.out)
     clear HR hb hs hms
     go_wp2_with fail
     go_loopw [9, 10] (fun a i wr => ∃ k v : Nat, k ≤ m.size ∧ a = .int .i64 v ∧ i = .int .i64 k ∧ wr = u3 ∧ Hid (decFrom 0 (m.data.toList.take k) = some v)) (fun _ i _ => m.size - (intOf i).toNat)
     case atStart =>
      exact ⟨0, 0, by omega, rfl, rfl, rfl, Lib.hid rfl⟩
     case round =>
      obtain ⟨k, v, hk, rfl, rfl, hw, HD⟩ := hrel
      subst hw
      have hv : v < 10000000000 := by
       have := decFrom_lt _ _ _ HD.out
       refine Nat.lt_of_lt_of_le this ?_
       rw [List.length_take, ← size_eq]
       rw [Nat.zero_add, Nat.one_mul]
       exact Nat.le_trans (Nat.pow_le_pow_right (by omega) (show min k m.size ≤ 10 by omega)) (by decide)
      by_cases hlt : k < m.size
      ·have hno : ¬(48 ≤ (m[k].toNat : Int) ∧ (m[k].toNat : Int) ≤ 57) → R = none := by
        intro q
        rw [← HR2.out, (dec_take HD.out hlt).2 (by
         unfold digitVal
         rw [if_neg (by omega)])]
        rfl
       go_wp2_with fail
       ·refine bodyPost_ret (v := .tuple #[.int .i64 0, .bool false]) (by simp [results, Tryz.results20, go_sem]) rfl ⟨?_, rfl⟩
        rw [hno (by omega)]
        rfl
       ·clear hno
        rename_i g1 g2
        refine ⟨⟨k + 1, v * 10 + (m[k].toNat - 48), by omega, ?_, by go_num, trivial, Lib.hid ?_⟩, ?_⟩
        ·congr 1
         omega
        ·rw [(dec_take HD.out hlt).1]
         unfold digitVal
         rw [if_pos (by omega)]
         rfl
        ·simp [intOf]; omega
       ·refine bodyPost_ret (v := .tuple #[.int .i64 0, .bool false]) (by simp [results, Tryz.results20, go_sem]) rfl ⟨?_, rfl⟩
        rw [hno (by omega)]
        rfl
      ·have hw1 : IntKind.i64.wrap (sn * (v : Int)) = sn * (v : Int) := by
        rcases hsn1 with rfl | rfl
        ·exact IntWalk.i64_in _ ⟨by omega, by omega⟩
        ·exact IntWalk.i64_in _ ⟨by omega, by omega⟩
       go_wp2_with fail
       refine bodyPost_ret (v := .tuple #[.int .i64 (sn * (v : Int)), .bool true]) (by simp [results, Tryz.results20, go_sem]) rfl ⟨?_, rfl⟩
       rw [← HR2.out, dec_all HD.out hlt]
       rfl
    ·go_wp2_with fail
     refine bodyPost_ret (v := .tuple #[.int .i64 0, .bool false]) (by simp [results, Tryz.results20, go_sem]) rfl ⟨?_, rfl⟩
     rw [← HR.out]
     rfl
end

section
open Go.RowKit Go.Lib

theorem conv_one (w : World) (b c : Nat) (x : Int) (h : w.cell? ⟨b, 0, none⟩ = some (.int .u8 x)) : (convert 35 9 (.slice (some ⟨b, 0, none⟩) 1 c)).run Tryz.prog w = .ok (.string (strOfNums [x])) w :=
  run_convert_bytes_arg w _ 5 Tryz.underlying35 Tryz.underlying5 b 0 1 c [x] rfl (fun i hi => by
    have : i = 0 := by omega
    subst this
    exact h) _ Tryz.underlying9
theorem conv_new (w : World) (x : Int) : (convert 35 9 (.slice (some ⟨w.heap.size, 0, none⟩) 1 1)).run Tryz.prog (w.alloc (.cells #[.int .u8 x] 5)) = .ok (.string (strOfNums [x])) (w.alloc (.cells #[.int .u8 x] 5)) :=
  conv_one _ _ _ _ (by simp)
theorem alloc_under (w : World) (o : Obj) : Below w.heap.size w (w.alloc o) := (Below.refl _ _).alloc (Nat.le_refl _) _
theorem then_under {w w1 w2 : World} (h : Below w.heap.size w w1) (hb : Below w1.heap.size w1 w2) : Below w.heap.size w w2 := h.trans (hb.mono h.size)
def TextOut (n : Int) (w : World) (e : Ending) (w' : World) : Prop := e = .returned (.string ⟨(itoa n).toArray⟩) ∧ Below w.heap.size w w'
theorem itoa_len {n : Int} (h1 : -9223372036854775808 ≤ n) (h2 : n ≤ 9223372036854775808) : (itoa n).length ≤ 20 := by
  by_cases h : n < 0
  · rw [itoa_minus h, List.length_cons, decDigits_length]
    have := (nDigits_le 18 n.natAbs).2 (by omega)
    omega
  · rw [itoa_pos (by omega), decDigits_length]
    have := (nDigits_le 18 n.toNat).2 (by omega)
    omega
theorem text_long {n : Int} (h1 : -9223372036854775808 ≤ n) (h2 : n ≤ 9223372036854775808) (x : Int) : ¬ 9223372036854775807 < (itoa n).length + (strOfNums [x]).size := by
  rw [strOfNums_size]
  have := itoa_len h1 h2
  simp only [List.length_cons, List.length_nil]
  omega
theorem text_big {n : Int} (h : 10 ≤ n) : (⟨(itoa (n / 10)).toArray⟩ : ByteArray) ++ strOfNums [48 + n % 10] = ⟨(itoa n).toArray⟩ := by
  rw [itoa_big h]
  show (⟨(itoa (n / 10)).toArray⟩ : ByteArray) ++ ⟨[UInt8.ofNat (48 + n % 10).toNat].toArray⟩ = _
  rw [show (48 + n % 10).toNat = 48 + (n % 10).toNat by omega]
  exact ByteArray.mk_append_mk _ _
section
attribute [local go_sem ↓] conv_new
set_option maxRecDepth 100000 in
set_option maxHeartbeats 4000000 in
theorem rText_one (n : Int) (h0 : 0 ≤ n) (h1 : n < 10) (w : World) : Calls Tryz.prog 15 #[.int .i64 n] w (TextOut n w) := by
 go_enter Tryz.func15, Tryz.ntmps15
 go_wp2_with fail
 have e : strOfNums [48 + n] = ⟨(itoa n).toArray⟩ := by
  rw [itoa_one h0 h1]
  show (⟨[UInt8.ofNat (48 + n).toNat].toArray⟩ : ByteArray) = _
  rw [show (48 + n).toNat = 48 + n.toNat by omega]
 refine bodyPost_ret (v := .string ⟨(itoa n).toArray⟩) (by simp [results, Tryz.results15, go_sem, e]) rfl ⟨rfl, alloc_under _ _⟩
end
set_option maxRecDepth 100000 in
set_option maxHeartbeats 4000000 in
theorem rText_big (n : Int) (h1 : 10 ≤ n) (h2 : n ≤ 9223372036854775807) (IH : ∀ w, Calls Tryz.prog 15 #[.int .i64 (n / 10)] w (TextOut (n / 10) w)) (w : World) : Calls Tryz.prog 15 #[.int .i64 n] w (TextOut n w) := by
 have HI := Lib.hid IH; clear IH
 have E1 := Lib.hid (show n.tdiv 10 = n / 10 from Int.tdiv_eq_ediv_of_nonneg (by omega))
 have E2 := Lib.hid (show n.tmod 10 = n % 10 from Int.tmod_eq_emod_of_nonneg (by omega))
 go_enter Tryz.func15, Tryz.ntmps15
 have HX1 := Lib.hid (show IntKind.i64.wrap (48 + n % 10) = 48 + n % 10 from IntWalk.i64_in _ ⟨by omega, by omega⟩)
 have HX2 := Lib.hid (show (48 + n % 10) % 256 = 48 + n % 10 by omega)
 have HC := Lib.hid (text_big h1)
 have HQW := Lib.hid (show IntKind.i64.wrap (n / 10) = n / 10 from IntWalk.i64_in _ ⟨by omega, by omega⟩)
 have HLN := Lib.hid (text_long (n := n / 10) (by omega) (by omega) (48 + n % 10))
 obtain ⟨q, hq⟩ : ∃ q, n / 10 = q := ⟨_, rfl⟩
 obtain ⟨m, hm⟩ : ∃ m, n % 10 = m := ⟨_, rfl⟩
 obtain ⟨x, hx⟩ : ∃ x, 48 + m = x := ⟨_, rfl⟩
 rw [hq] at HI E1 HC HQW HLN
 rw [hm] at E2 HX1 HX2 HC HLN
 rw [hx] at HX1 HX2 HC HLN
 have hx0 : 0 ≤ x := by omega
 have hx1 : x < 256 := by omega
 clear hq hm
 go_upto_region 7 with fail
 refine wp_region_held_drew (S := fun x => Below w.heap.size w x) (by kernel_rfl) (Below.refl _ _).drew (fun hHeld => ?_)
 obtain ⟨yq, hW⟩ : ∃ W', w.drew = W' := ⟨_, rfl⟩
 rw [hW] at hHeld ⊢
 clear hW
 refine tK 28 (i := 0) (v := .int .i64 n) rfl rfl (by kernel_rfl) ?_ hHeld ?_
 ·intro w hSw; clear hSw; go_simp; try with_reducible rfl
 simp only [uZ, uS]
 refine tK 29 (i := 1) (v := .int .i64 q) rfl rfl (by kernel_rfl) ?_ hHeld ?_
 ·intro w hSw; clear hSw; go_simp; first | done | exact E1.out | exact HQW.out | (rw [E1.out]; exact HQW.out)
 simp only [uZ, uS]
 refine tK 31 (i := 3) (v := .int .i64 n) rfl rfl (by kernel_rfl) ?_ hHeld ?_
 ·intro w hSw; clear hSw; go_simp; try with_reducible rfl
 simp only [uZ, uS]
 refine tK 32 (i := 4) (v := .int .i64 m) rfl rfl (by kernel_rfl) ?_ hHeld ?_
 ·intro w hSw; clear hSw; go_simp; first | done | (rw [E2.out]; try rfl)
 simp only [uZ, uS]
 refine tK 33 (i := 5) (v := .int .i64 x) rfl rfl (by kernel_rfl) ?_ hHeld ?_
 ·intro w hSw; clear hSw; go_simp; first | done | exact HX1.out
 simp only [uZ, uS]
 refine tK 34 (i := 6) (v := .int .u8 x) rfl rfl (by kernel_rfl) ?_ hHeld ?_
 ·intro w hSw; clear hSw; go_simp; first | done | exact HX2.out
 simp only [uZ, uS]
 refine wpAnyH_ready (rs := [2, 7]) (by kernel_rfl) (by simp) ?_
 refine AllReadyH.cons rfl (fun K hK => ?_) (AllReadyH.cons rfl (fun K hK => ?_) AllReadyH.nil)
 ·skip
  go_simp
  (with_reducible refine (HI.out _).mono ?_)
  rintro x y ⟨rfl, hq⟩
  refine hK.out _ _ (then_under hHeld hq) (fun hHeld2 => ?_)
  clear hq
  try simp only [Act.put, uA, uZ, uS]
  clear hK K hHeld
  have hHeld := hHeld2
  clear hHeld2
  refine wpAnyH_ready (rs := [7]) (by kernel_rfl) (by simp) ?_
  refine AllReadyH.cons rfl (fun K hK => ?_) AllReadyH.nil
  ·skip
   rename World => yq
   go_simp
   have hcell : (yq.alloc (.cells #[.int .u8 x] 5)).cell? ⟨yq.heap.size, 0, none⟩ = some (.int .u8 x) := by simp
   have hlt : yq.heap.size < (yq.alloc (.cells #[.int .u8 x] 5)).heap.size := by simp
   refine hK.out _ _ (then_under hHeld (alloc_under _ _)) (fun hHeld2 => ?_)
   try simp only [Act.put, uA, uZ, uS]
   clear hK K hHeld
   have hHeld := hHeld2
   clear hHeld2
   obtain ⟨yr, hW⟩ : ∃ W', yq.alloc (.cells #[.int .u8 x] 5) = W' := ⟨_, rfl⟩
   rw [hW] at hcell hlt hHeld ⊢
   clear hW
   obtain ⟨B, hB⟩ : ∃ B, yq.heap.size = B := ⟨_, rfl⟩
   rw [hB] at hcell hlt ⊢
   clear hB
   refine wpAnyH_ready (rs := [8]) (by kernel_rfl) (by simp) ?_
   refine AllReadyH.cons rfl (fun K hK => ?_) AllReadyH.nil
   ·skip
    have hcv := conv_one _ B 1 _ hcell
    go_simp
    refine hK.out _ _ hHeld (fun hHeld2 => ?_)
    clear hcv
    try simp only [Act.put, uA, uZ, uS]
    clear hK K hHeld
    have hHeld := hHeld2
    clear hHeld2
    refine tK 37 (i := 9) (v := .string ⟨(itoa n).toArray⟩) rfl rfl (by kernel_rfl) ?_ hHeld ?_
    ·intro w hSw; clear hSw; go_simp; rw [if_neg HLN.out, HC.out]
    simp only [uZ, uS]
    refine tK 2 (i := 10) (v := .string ⟨(itoa n).toArray⟩) rfl rfl (by kernel_rfl) ?_ hHeld ?_
    ·intro w hSw; clear hSw; go_simp; try with_reducible rfl
    simp only [uZ, uS]
    refine wpAnyH_done (by kernel_rfl) ?_ _
    go_wp2_with fail
    refine bodyPost_ret (v := .string ⟨(itoa n).toArray⟩) (by simp [results, Tryz.results15, go_sem]) rfl ⟨rfl, hHeld⟩
 ·skip
  rename World => yq
  go_simp
  have hcell : (yq.alloc (.cells #[.int .u8 x] 5)).cell? ⟨yq.heap.size, 0, none⟩ = some (.int .u8 x) := by simp
  have hlt : yq.heap.size < (yq.alloc (.cells #[.int .u8 x] 5)).heap.size := by simp
  refine hK.out _ _ (then_under hHeld (alloc_under _ _)) (fun hHeld2 => ?_)
  try simp only [Act.put, uA, uZ, uS]
  clear hK K hHeld
  have hHeld := hHeld2
  clear hHeld2
  obtain ⟨yr, hW⟩ : ∃ W', yq.alloc (.cells #[.int .u8 x] 5) = W' := ⟨_, rfl⟩
  rw [hW] at hcell hlt hHeld ⊢
  clear hW
  obtain ⟨B, hB⟩ : ∃ B, yq.heap.size = B := ⟨_, rfl⟩
  rw [hB] at hcell hlt ⊢
  clear hB
  refine wpAnyH_ready (rs := [2, 8]) (by kernel_rfl) (by simp) ?_
  refine AllReadyH.cons rfl (fun K hK => ?_) (AllReadyH.cons rfl (fun K hK => ?_) AllReadyH.nil)
  ·skip
   go_simp
   (with_reducible refine (HI.out _).mono ?_)
   rintro x y ⟨rfl, hq⟩
   refine hK.out _ _ (then_under hHeld hq) (fun hHeld2 => ?_)
   have hcell2 := hcell
   rw [← hq.cell (p := ⟨B, 0, none⟩) hlt] at hcell2
   clear hcell hlt hq
   have hcell := hcell2
   clear hcell2
   try simp only [Act.put, uA, uZ, uS]
   clear hK K hHeld
   have hHeld := hHeld2
   clear hHeld2
   refine wpAnyH_ready (rs := [8]) (by kernel_rfl) (by simp) ?_
   refine AllReadyH.cons rfl (fun K hK => ?_) AllReadyH.nil
   ·skip
    have hcv := conv_one _ B 1 _ hcell
    go_simp
    refine hK.out _ _ hHeld (fun hHeld2 => ?_)
    clear hcv
    try simp only [Act.put, uA, uZ, uS]
    clear hK K hHeld
    have hHeld := hHeld2
    clear hHeld2
    refine tK 37 (i := 9) (v := .string ⟨(itoa n).toArray⟩) rfl rfl (by kernel_rfl) ?_ hHeld ?_
    ·intro w hSw; clear hSw; go_simp; rw [if_neg HLN.out, HC.out]
    simp only [uZ, uS]
    refine tK 2 (i := 10) (v := .string ⟨(itoa n).toArray⟩) rfl rfl (by kernel_rfl) ?_ hHeld ?_
    ·intro w hSw; clear hSw; go_simp; try with_reducible rfl
    simp only [uZ, uS]
    refine wpAnyH_done (by kernel_rfl) ?_ _
    go_wp2_with fail
    refine bodyPost_ret (v := .string ⟨(itoa n).toArray⟩) (by simp [results, Tryz.results15, go_sem]) rfl ⟨rfl, hHeld⟩
  ·skip
   have hcv := conv_one _ B 1 _ hcell
   go_simp
   refine hK.out _ _ hHeld (fun hHeld2 => ?_)
   clear hcv
   try simp only [Act.put, uA, uZ, uS]
   clear hK K hHeld
   have hHeld := hHeld2
   clear hHeld2
   refine wpAnyH_ready (rs := [2]) (by kernel_rfl) (by simp) ?_
   refine AllReadyH.cons rfl (fun K hK => ?_) AllReadyH.nil
   ·skip
    go_simp
    (with_reducible refine (HI.out _).mono ?_)
    rintro x y ⟨rfl, hq⟩
    refine hK.out _ _ (then_under hHeld hq) (fun hHeld2 => ?_)
    clear hq
    try simp only [Act.put, uA, uZ, uS]
    clear hK K hHeld
    have hHeld := hHeld2
    clear hHeld2
    refine tK 37 (i := 9) (v := .string ⟨(itoa n).toArray⟩) rfl rfl (by kernel_rfl) ?_ hHeld ?_
    ·intro w hSw; clear hSw; go_simp; rw [if_neg HLN.out, HC.out]
    simp only [uZ, uS]
    refine tK 2 (i := 10) (v := .string ⟨(itoa n).toArray⟩) rfl rfl (by kernel_rfl) ?_ hHeld ?_
    ·intro w hSw; clear hSw; go_simp; try with_reducible rfl
    simp only [uZ, uS]
    refine wpAnyH_done (by kernel_rfl) ?_ _
    go_wp2_with fail
    refine bodyPost_ret (v := .string ⟨(itoa n).toArray⟩) (by simp [results, Tryz.results15, go_sem]) rfl ⟨rfl, hHeld⟩
theorem text_neg {n : Int} (h : n < -9) : (⟨(itoa (n.tdiv 10)).toArray⟩ : ByteArray) ++ strOfNums [48 - n.tmod 10] = ⟨(itoa n).toArray⟩ := by
  rw [itoa_big_neg h]
  show (⟨(itoa (n.tdiv 10)).toArray⟩ : ByteArray) ++ ⟨[UInt8.ofNat (48 - n.tmod 10).toNat].toArray⟩ = _
  have e : n.tmod 10 = -((-n) % 10) := by
    obtain ⟨m, rfl⟩ : ∃ m : Int, n = -m := ⟨-n, by omega⟩
    rw [Int.neg_tmod, Int.tmod_eq_emod_of_nonneg (by omega), Int.neg_neg]
  rw [show (48 - n.tmod 10).toNat = 48 + (-(n.tmod 10)).toNat by omega]
  exact ByteArray.mk_append_mk _ _
theorem quo_neg {n : Int} (h : n < 0) : n.tdiv 10 = -((-n) / 10) ∧ n.tmod 10 = -((-n) % 10) := by
  obtain ⟨m, rfl⟩ : ∃ m : Int, n = -m := ⟨-n, by omega⟩
  rw [Int.neg_tdiv, Int.neg_tmod, Int.tdiv_eq_ediv_of_nonneg (by omega), Int.tmod_eq_emod_of_nonneg (by omega), Int.neg_neg]
  exact ⟨rfl, rfl⟩
set_option maxRecDepth 100000 in
set_option maxHeartbeats 4000000 in
theorem rText_low (n : Int) (h1 : n < -9) (h2 : -9223372036854775808 ≤ n) (IH : ∀ w, Calls Tryz.prog 15 #[.int .i64 (n.tdiv 10)] w (TextOut (n.tdiv 10) w)) (w : World) : Calls Tryz.prog 15 #[.int .i64 n] w (TextOut n w) := by
 have HI := Lib.hid IH; clear IH
 have hqn := quo_neg (show n < 0 by omega)
 have HX1 := Lib.hid (show IntKind.i64.wrap (48 - n.tmod 10) = 48 - n.tmod 10 from IntWalk.i64_in _ ⟨by omega, by omega⟩)
 have HX2 := Lib.hid (show (48 - n.tmod 10) % 256 = 48 - n.tmod 10 by omega)
 have HC := Lib.hid (text_neg h1)
 have HQW := Lib.hid (show IntKind.i64.wrap (n.tdiv 10) = n.tdiv 10 from IntWalk.i64_in _ ⟨by omega, by omega⟩)
 have HLN := Lib.hid (text_long (n := n.tdiv 10) (by omega) (by omega) (48 - n.tmod 10))
 have hx0 : 0 ≤ 48 - n.tmod 10 := by omega
 have hx1 : 48 - n.tmod 10 < 256 := by omega
 clear hqn
 obtain ⟨q, hq⟩ : ∃ q, n.tdiv 10 = q := ⟨_, rfl⟩
 obtain ⟨m, hm⟩ : ∃ m, n.tmod 10 = m := ⟨_, rfl⟩
 obtain ⟨x, hx⟩ : ∃ x, 48 - m = x := ⟨_, rfl⟩
 rw [hq] at HI HC HQW HLN
 rw [hm] at HX1 HX2 HC HLN hx0 hx1
 rw [hx] at HX1 HX2 HC HLN hx0 hx1
 have E1 := Lib.hid hq
 have E2 := Lib.hid hm
 clear hq hm
 go_enter Tryz.func15, Tryz.ntmps15
 go_upto_region 2 with fail
 refine wp_region_held_drew (S := fun x => Below w.heap.size w x) (by kernel_rfl) (Below.refl _ _).drew (fun hHeld => ?_)
 obtain ⟨yq, hW⟩ : ∃ W', w.drew = W' := ⟨_, rfl⟩
 rw [hW] at hHeld ⊢
 clear hW
 refine tK 5 (i := 0) (v := .int .i64 n) rfl rfl (by kernel_rfl) ?_ hHeld ?_
 ·intro w hSw; clear hSw; go_simp; try with_reducible rfl
 simp only [uZ, uS]
 refine tK 6 (i := 1) (v := .int .i64 q) rfl rfl (by kernel_rfl) ?_ hHeld ?_
 ·intro w hSw; clear hSw; go_simp; first | done | exact E1.out | exact HQW.out | (rw [E1.out]; exact HQW.out)
 simp only [uZ, uS]
 refine tK 8 (i := 3) (v := .int .i64 n) rfl rfl (by kernel_rfl) ?_ hHeld ?_
 ·intro w hSw; clear hSw; go_simp; try with_reducible rfl
 simp only [uZ, uS]
 refine tK 9 (i := 4) (v := .int .i64 m) rfl rfl (by kernel_rfl) ?_ hHeld ?_
 ·intro w hSw; clear hSw; go_simp; first | done | (rw [E2.out]; try rfl)
 simp only [uZ, uS]
 refine tK 10 (i := 5) (v := .int .i64 x) rfl rfl (by kernel_rfl) ?_ hHeld ?_
 ·intro w hSw; clear hSw; go_simp; first | done | exact HX1.out
 simp only [uZ, uS]
 refine tK 11 (i := 6) (v := .int .u8 x) rfl rfl (by kernel_rfl) ?_ hHeld ?_
 ·intro w hSw; clear hSw; go_simp; first | done | exact HX2.out
 simp only [uZ, uS]
 refine wpAnyH_ready (rs := [2, 7]) (by kernel_rfl) (by simp) ?_
 refine AllReadyH.cons rfl (fun K hK => ?_) (AllReadyH.cons rfl (fun K hK => ?_) AllReadyH.nil)
 ·skip
  go_simp
  (with_reducible refine (HI.out _).mono ?_)
  rintro x y ⟨rfl, hq⟩
  refine hK.out _ _ (then_under hHeld hq) (fun hHeld2 => ?_)
  clear hq
  try simp only [Act.put, uA, uZ, uS]
  clear hK K hHeld
  have hHeld := hHeld2
  clear hHeld2
  refine wpAnyH_ready (rs := [7]) (by kernel_rfl) (by simp) ?_
  refine AllReadyH.cons rfl (fun K hK => ?_) AllReadyH.nil
  ·skip
   rename World => yq
   go_simp
   have hcell : (yq.alloc (.cells #[.int .u8 x] 5)).cell? ⟨yq.heap.size, 0, none⟩ = some (.int .u8 x) := by simp
   have hlt : yq.heap.size < (yq.alloc (.cells #[.int .u8 x] 5)).heap.size := by simp
   refine hK.out _ _ (then_under hHeld (alloc_under _ _)) (fun hHeld2 => ?_)
   try simp only [Act.put, uA, uZ, uS]
   clear hK K hHeld
   have hHeld := hHeld2
   clear hHeld2
   obtain ⟨yr, hW⟩ : ∃ W', yq.alloc (.cells #[.int .u8 x] 5) = W' := ⟨_, rfl⟩
   rw [hW] at hcell hlt hHeld ⊢
   clear hW
   obtain ⟨B, hB⟩ : ∃ B, yq.heap.size = B := ⟨_, rfl⟩
   rw [hB] at hcell hlt ⊢
   clear hB
   refine wpAnyH_ready (rs := [8]) (by kernel_rfl) (by simp) ?_
   refine AllReadyH.cons rfl (fun K hK => ?_) AllReadyH.nil
   ·skip
    have hcv := conv_one _ B 1 _ hcell
    go_simp
    refine hK.out _ _ hHeld (fun hHeld2 => ?_)
    clear hcv
    try simp only [Act.put, uA, uZ, uS]
    clear hK K hHeld
    have hHeld := hHeld2
    clear hHeld2
    refine tK 14 (i := 9) (v := .string ⟨(itoa n).toArray⟩) rfl rfl (by kernel_rfl) ?_ hHeld ?_
    ·intro w hSw; clear hSw; go_simp; rw [if_neg HLN.out, HC.out]
    simp only [uZ, uS]
    refine tK 2 (i := 10) (v := .string ⟨(itoa n).toArray⟩) rfl rfl (by kernel_rfl) ?_ hHeld ?_
    ·intro w hSw; clear hSw; go_simp; try with_reducible rfl
    simp only [uZ, uS]
    refine wpAnyH_done (by kernel_rfl) ?_ _
    go_wp2_with fail
    refine bodyPost_ret (v := .string ⟨(itoa n).toArray⟩) (by simp [results, Tryz.results15, go_sem]) rfl ⟨rfl, hHeld⟩
 ·skip
  rename World => yq
  go_simp
  have hcell : (yq.alloc (.cells #[.int .u8 x] 5)).cell? ⟨yq.heap.size, 0, none⟩ = some (.int .u8 x) := by simp
  have hlt : yq.heap.size < (yq.alloc (.cells #[.int .u8 x] 5)).heap.size := by simp
  refine hK.out _ _ (then_under hHeld (alloc_under _ _)) (fun hHeld2 => ?_)
  try simp only [Act.put, uA, uZ, uS]
  clear hK K hHeld
  have hHeld := hHeld2
  clear hHeld2
  obtain ⟨yr, hW⟩ : ∃ W', yq.alloc (.cells #[.int .u8 x] 5) = W' := ⟨_, rfl⟩
  rw [hW] at hcell hlt hHeld ⊢
  clear hW
  obtain ⟨B, hB⟩ : ∃ B, yq.heap.size = B := ⟨_, rfl⟩
  rw [hB] at hcell hlt ⊢
  clear hB
  refine wpAnyH_ready (rs := [2, 8]) (by kernel_rfl) (by simp) ?_
  refine AllReadyH.cons rfl (fun K hK => ?_) (AllReadyH.cons rfl (fun K hK => ?_) AllReadyH.nil)
  ·skip
   go_simp
   (with_reducible refine (HI.out _).mono ?_)
   rintro x y ⟨rfl, hq⟩
   refine hK.out _ _ (then_under hHeld hq) (fun hHeld2 => ?_)
   have hcell2 := hcell
   rw [← hq.cell (p := ⟨B, 0, none⟩) hlt] at hcell2
   clear hcell hlt hq
   have hcell := hcell2
   clear hcell2
   try simp only [Act.put, uA, uZ, uS]
   clear hK K hHeld
   have hHeld := hHeld2
   clear hHeld2
   refine wpAnyH_ready (rs := [8]) (by kernel_rfl) (by simp) ?_
   refine AllReadyH.cons rfl (fun K hK => ?_) AllReadyH.nil
   ·skip
    have hcv := conv_one _ B 1 _ hcell
    go_simp
    refine hK.out _ _ hHeld (fun hHeld2 => ?_)
    clear hcv
    try simp only [Act.put, uA, uZ, uS]
    clear hK K hHeld
    have hHeld := hHeld2
    clear hHeld2
    refine tK 14 (i := 9) (v := .string ⟨(itoa n).toArray⟩) rfl rfl (by kernel_rfl) ?_ hHeld ?_
    ·intro w hSw; clear hSw; go_simp; rw [if_neg HLN.out, HC.out]
    simp only [uZ, uS]
    refine tK 2 (i := 10) (v := .string ⟨(itoa n).toArray⟩) rfl rfl (by kernel_rfl) ?_ hHeld ?_
    ·intro w hSw; clear hSw; go_simp; try with_reducible rfl
    simp only [uZ, uS]
    refine wpAnyH_done (by kernel_rfl) ?_ _
    go_wp2_with fail
    refine bodyPost_ret (v := .string ⟨(itoa n).toArray⟩) (by simp [results, Tryz.results15, go_sem]) rfl ⟨rfl, hHeld⟩
  ·skip
   have hcv := conv_one _ B 1 _ hcell
   go_simp
   refine hK.out _ _ hHeld (fun hHeld2 => ?_)
   clear hcv
   try simp only [Act.put, uA, uZ, uS]
   clear hK K hHeld
   have hHeld := hHeld2
   clear hHeld2
   refine wpAnyH_ready (rs := [2]) (by kernel_rfl) (by simp) ?_
   refine AllReadyH.cons rfl (fun K hK => ?_) AllReadyH.nil
   ·skip
    go_simp
    (with_reducible refine (HI.out _).mono ?_)
    rintro x y ⟨rfl, hq⟩
    refine hK.out _ _ (then_under hHeld hq) (fun hHeld2 => ?_)
    clear hq
    try simp only [Act.put, uA, uZ, uS]
    clear hK K hHeld
    have hHeld := hHeld2
    clear hHeld2
    refine tK 14 (i := 9) (v := .string ⟨(itoa n).toArray⟩) rfl rfl (by kernel_rfl) ?_ hHeld ?_
    ·intro w hSw; clear hSw; go_simp; rw [if_neg HLN.out, HC.out]
    simp only [uZ, uS]
    refine tK 2 (i := 10) (v := .string ⟨(itoa n).toArray⟩) rfl rfl (by kernel_rfl) ?_ hHeld ?_
    ·intro w hSw; clear hSw; go_simp; try with_reducible rfl
    simp only [uZ, uS]
    refine wpAnyH_done (by kernel_rfl) ?_ _
    go_wp2_with fail
    refine bodyPost_ret (v := .string ⟨(itoa n).toArray⟩) (by simp [results, Tryz.results15, go_sem]) rfl ⟨rfl, hHeld⟩
set_option maxRecDepth 100000 in
set_option maxHeartbeats 4000000 in
theorem rText_neg (n : Int) (h1 : -9 ≤ n) (h2 : n < 0) (w : World) : Calls Tryz.prog 15 #[.int .i64 n] w (TextOut n w) := by
 have HI := Lib.hid (rText_one (-n) (by omega) (by omega))
 have HC := Lib.hid (show (⟨#[45]⟩ : ByteArray) ++ ⟨(itoa (-n)).toArray⟩ = ⟨(itoa n).toArray⟩ by
  rw [itoa_small_neg h2]
  exact ByteArray.mk_append_mk [45] _)
 have HL := Lib.hid (show ¬ 9223372036854775807 < 1 + (itoa (-n)).length by
  have := itoa_len (n := -n) (by omega) (by omega)
  omega)
 go_enter Tryz.func15, Tryz.ntmps15
 go_wp2_with (go_at_call 15; refine (HI.out _).mono ?_; rintro e w1 ⟨rfl, hb⟩)
 rw [HC.out]
 refine bodyPost_ret (v := .string ⟨(itoa n).toArray⟩) (by simp [results, Tryz.results15, go_sem]) rfl ⟨rfl, hb⟩
theorem rText_any : ∀ (k : Nat) (n : Int), n.natAbs ≤ k → -9223372036854775808 ≤ n → n ≤ 9223372036854775807 → ∀ w, Calls Tryz.prog 15 #[.int .i64 n] w (TextOut n w)
  | 0, n, hk, h1, h2, w => rText_one n (by omega) (by omega) w
  | k + 1, n, hk, h1, h2, w => by
    by_cases ha : n < -9
    · have e := (quo_neg (show n < 0 by omega)).1
      exact rText_low n ha h1 (fun w => rText_any k _ (by omega) (by omega) (by omega) w) w
    · by_cases hb : n < 0
      · exact rText_neg n (by omega) hb w
      · by_cases hc : n < 10
        · exact rText_one n (by omega) hc w
        · exact rText_big n (by omega) h2 (fun w => rText_any k _ (by omega) (by omega) (by omega) w) w
end

end Go.Proofs.YtmglhhbfkohkcaaGreatDoor
