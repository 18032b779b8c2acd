/- combine with Hull, and Either (fix), for all tables; from the texts for Add. -/
import Derived.Test.YtmenlaefekkahaaB7
import Derived.Test.YtmenlaefekkahaaG2
import Derived.Test.YtmenlaefekkahaaH2
import Derived.Test.YtmenlaefekkahaaM1
import Derived.Test.YtmenlaefekkahaaG1
set_option linter.unusedVariables false
set_option linter.unusedSimpArgs false
set_option linter.constructorNameAsVariable false
namespace Go.Proofs.Ytmenlaefekkahaa

section
/-- a rising list with a number, once -/
def insS (l : List Int) (n : Int) : List Int := if n ∈ l then l else (l.filter fun x => decide (x < n)) ++ n :: (l.filter fun x => decide (n < x))
theorem insS_mem (l : List Int) (n x : Int) : x ∈ insS l n ↔ (x ∈ l ∨ x = n) := by
  unfold insS
  by_cases h : n ∈ l
  · rw [if_pos h]
    constructor
    · exact .inl
    · rintro (h' | rfl)
      · exact h'
      · exact h
  · rw [if_neg h]
    simp only [List.mem_append, List.mem_filter, List.mem_cons, decide_eq_true_eq]
    constructor
    · rintro (⟨h1, _⟩ | rfl | ⟨h1, _⟩)
      · exact .inl h1
      · exact .inr rfl
      · exact .inl h1
    · rintro (h1 | rfl)
      · rcases Int.lt_trichotomy x n with c | c | c
        · exact .inl ⟨h1, c⟩
        · subst c; exact absurd h1 h
        · exact .inr (.inr ⟨h1, c⟩)
      · exact .inr (.inl rfl)
theorem insS_rising {l : List Int} {n : Int} (hl : l.Pairwise (· < ·)) : (insS l n).Pairwise (· < ·) := by
  unfold insS
  by_cases h : n ∈ l
  · rw [if_pos h]; exact hl
  · rw [if_neg h]
    rw [List.pairwise_append]
    refine ⟨hl.filter _, List.pairwise_cons.2 ⟨fun x hx => by simpa using (List.mem_filter.1 hx).2, hl.filter _⟩, fun x hx y hy => ?_⟩
    have h1 : x < n := by simpa using (List.mem_filter.1 hx).2
    rcases List.mem_cons.1 hy with rfl | hy
    · exact h1
    · have h2 : n < y := by simpa using (List.mem_filter.1 hy).2
      omega
/-- whether a place lies in both domains -/
def inBoth (ps qs : List P3) (x : Int) : Bool := (decide (firstX ps ≤ x) && decide (x ≤ lastX ps)) && (decide (firstX qs ≤ x) && decide (x ≤ lastX qs))
def placeStep (ps qs : List P3) (l : List Int) (p : P3) : List Int := if inBoth ps qs p.1 = true then insS l p.1 else l
/-- the places of two tables -/
def placesOf (ps qs : List P3) : List Int := (ps ++ qs).foldl (placeStep ps qs) []
theorem places_fold (ps qs : List P3) : ∀ (r : List P3) (l : List Int), l.Pairwise (· < ·) → (r.foldl (placeStep ps qs) l).Pairwise (· < ·) ∧ ∀ x, x ∈ r.foldl (placeStep ps qs) l ↔ (x ∈ l ∨ ∃ p ∈ r, p.1 = x ∧ inBoth ps qs x = true)
  | [], l, h => ⟨h, fun x => by simp⟩
  | p :: r, l, h => by
    rw [List.foldl_cons]
    by_cases c : inBoth ps qs p.1 = true
    · have e : placeStep ps qs l p = insS l p.1 := by unfold placeStep; rw [if_pos c]
      obtain ⟨a, b⟩ := places_fold ps qs r (placeStep ps qs l p) (by rw [e]; exact insS_rising h)
      refine ⟨a, fun x => ?_⟩
      rw [b x, e, insS_mem]
      simp only [List.mem_cons, exists_eq_or_imp]
      constructor
      · rintro ((h1 | rfl) | h1)
        · exact .inl h1
        · exact .inr (.inl ⟨rfl, c⟩)
        · exact .inr (.inr h1)
      · rintro (h1 | ⟨rfl, _⟩ | h1)
        · exact .inl (.inl h1)
        · exact .inl (.inr rfl)
        · exact .inr h1
    · have e : placeStep ps qs l p = l := by unfold placeStep; rw [if_neg c]
      obtain ⟨a, b⟩ := places_fold ps qs r (placeStep ps qs l p) (by rw [e]; exact h)
      refine ⟨a, fun x => ?_⟩
      rw [b x, e]
      simp only [List.mem_cons, exists_eq_or_imp]
      constructor
      · rintro (h1 | h1)
        · exact .inl h1
        · exact .inr (.inr h1)
      · rintro (h1 | ⟨rfl, h1⟩ | h1)
        · exact .inl h1
        · exact absurd h1 c
        · exact .inr h1
theorem placesOf_rising (ps qs : List P3) : (placesOf ps qs).Pairwise (· < ·) := (places_fold ps qs _ [] .nil).1
theorem placesOf_mem (ps qs : List P3) (x : Int) : x ∈ placesOf ps qs ↔ ∃ p ∈ ps ++ qs, p.1 = x ∧ inBoth ps qs x = true := by
  unfold placesOf; rw [(places_fold ps qs _ [] .nil).2 x]; simp
theorem first_mem {ps : List P3} (h : 1 ≤ ps.length) : ∃ p ∈ ps, p.1 = firstX ps := by
  cases ps with
  | nil => simp at h
  | cons p r => exact ⟨p, by simp, rfl⟩
theorem last_mem {ps : List P3} (h : 1 ≤ ps.length) : ∃ p ∈ ps, p.1 = lastX ps := by
  have e : ps[ps.length - 1]? = some (ps[ps.length - 1]'(by omega)) := List.getElem?_eq_getElem (by omega)
  have f : lastX ps = (ps[ps.length - 1]'(by omega)).1 := by unfold lastX; rw [List.getLast?_eq_getElem?, e]; rfl
  exact ⟨_, List.getElem_mem _, f.symm⟩
theorem cornersS_mem {ps : List P3} {a b x : Int} (hab : a ≤ b) : x ∈ cornersS ps a b ↔ (x = a ∨ x = b ∨ (a < x ∧ x < b ∧ ∃ p ∈ ps, p.1 = x)) := by
  unfold cornersS
  rw [List.cons_append, List.mem_cons, List.mem_append, List.mem_map]
  constructor
  · rintro (h | ⟨p, hp, rfl⟩ | h)
    · exact .inl h
    · obtain ⟨h1, h2⟩ := List.mem_filter.1 hp
      simp at h2
      exact .inr (.inr ⟨h2.1, h2.2, p, h1, rfl⟩)
    · by_cases c : a < b
      · rw [if_pos c] at h; simp at h; exact .inr (.inl h)
      · rw [if_neg c] at h; simp at h
  · rintro (h | h | ⟨h1, h2, p, hp, rfl⟩)
    · exact .inl h
    · by_cases c : a < b
      · exact .inr (.inr (by rw [if_pos c]; simp [h]))
      · exact .inl (by omega)
    · exact .inr (.inl ⟨p, List.mem_filter.2 ⟨hp, by simp [h1, h2]⟩, rfl⟩)
/-- the corners of both tables over what both domains have are just the places -/
theorem places_corners {ps qs : List P3} (h1 : 1 ≤ ps.length) (h2 : 1 ≤ qs.length) (h : max (firstX ps) (firstX qs) ≤ min (lastX ps) (lastX qs)) (x : Int) :
    x ∈ placesOf ps qs ↔ x ∈ cornersS ps (max (firstX ps) (firstX qs)) (min (lastX ps) (lastX qs)) ++ cornersS qs (max (firstX ps) (firstX qs)) (min (lastX ps) (lastX qs)) := by
  rw [placesOf_mem, List.mem_append, cornersS_mem h, cornersS_mem h]
  have hb : inBoth ps qs x = true ↔ (max (firstX ps) (firstX qs) ≤ x ∧ x ≤ min (lastX ps) (lastX qs)) := by simp [inBoth]; omega
  rw [hb]
  constructor
  · rintro ⟨p, hp, rfl, c1, c2⟩
    rcases List.mem_append.1 hp with hp | hp
    · left
      by_cases e1 : p.1 = max (firstX ps) (firstX qs)
      · exact .inl e1
      · by_cases e2 : p.1 = min (lastX ps) (lastX qs)
        · exact .inr (.inl e2)
        · exact .inr (.inr ⟨by omega, by omega, p, hp, rfl⟩)
    · right
      by_cases e1 : p.1 = max (firstX ps) (firstX qs)
      · exact .inl e1
      · by_cases e2 : p.1 = min (lastX ps) (lastX qs)
        · exact .inr (.inl e2)
        · exact .inr (.inr ⟨by omega, by omega, p, hp, rfl⟩)
  · have ha : ∃ p ∈ ps ++ qs, p.1 = max (firstX ps) (firstX qs) := by
      obtain ⟨p, hp, e1⟩ := first_mem h1
      obtain ⟨q, hq, e2⟩ := first_mem h2
      rcases Int.le_total (firstX ps) (firstX qs) with c | c
      · exact ⟨q, by simp [hq], by omega⟩
      · exact ⟨p, by simp [hp], by omega⟩
    have hz : ∃ p ∈ ps ++ qs, p.1 = min (lastX ps) (lastX qs) := by
      obtain ⟨p, hp, e1⟩ := last_mem h1
      obtain ⟨q, hq, e2⟩ := last_mem h2
      rcases Int.le_total (lastX ps) (lastX qs) with c | c
      · exact ⟨p, by simp [hp], by omega⟩
      · exact ⟨q, by simp [hq], by omega⟩
    rintro ((rfl | rfl | ⟨c1, c2, p, hp, rfl⟩) | (rfl | rfl | ⟨c1, c2, p, hp, rfl⟩))
    · obtain ⟨p, hp, e⟩ := ha; exact ⟨p, hp, e, by omega, by omega⟩
    · obtain ⟨p, hp, e⟩ := hz; exact ⟨p, hp, e, by omega, by omega⟩
    · exact ⟨p, by simp [hp], rfl, by omega, by omega⟩
    · obtain ⟨p, hp, e⟩ := ha; exact ⟨p, hp, e, by omega, by omega⟩
    · obtain ⟨p, hp, e⟩ := hz; exact ⟨p, hp, e, by omega, by omega⟩
    · exact ⟨p, by simp [hp], rfl, by omega, by omega⟩
theorem places_none {ps qs : List P3} (h : ¬ max (firstX ps) (firstX qs) ≤ min (lastX ps) (lastX qs)) : placesOf ps qs = [] := by
  rw [List.eq_nil_iff_forall_not_mem]
  intro x hx
  obtain ⟨p, _, rfl, hb⟩ := (placesOf_mem ps qs x).1 hx
  simp [inBoth] at hb
  omega
/-- what build makes of places: the first error, or nothing -/
def buildE (f : Int → Int × Int × Int) : List Int → Int
  | [] => 0
  | x :: L => if (f x).2.2 ≠ 0 then (f x).2.2 else if inB (f x).1 (f x).2.1 (-1000000000) 1000000000 = true then buildE f L else 5
theorem buildE_snoc (f : Int → Int × Int × Int) : ∀ (L : List Int) (x : Int), buildE f L = 0 → buildE f (L ++ [x]) = buildE f [x]
  | [], x, _ => rfl
  | y :: L, x, h => by
    rw [List.cons_append]
    unfold buildE at h ⊢
    by_cases c : (f y).2.2 ≠ 0
    · rw [if_pos c] at h; exact absurd h c
    · rw [if_neg c] at h ⊢
      by_cases d : inB (f y).1 (f y).2.1 (-1000000000) 1000000000 = true
      · rw [if_pos d] at h ⊢; exact buildE_snoc f L x h
      · rw [if_neg d] at h; cases h
theorem buildE_ok {f : Int → Int × Int × Int} : ∀ {L : List Int}, buildE f L = 0 → ∀ x ∈ L, (f x).2.2 = 0 ∧ inB (f x).1 (f x).2.1 (-1000000000) 1000000000 = true
  | [], _, x, hx => by simp at hx
  | y :: L, h, x, hx => by
    unfold buildE at h
    by_cases c : (f y).2.2 ≠ 0
    · rw [if_pos c] at h; exact absurd h c
    · rw [if_neg c] at h
      by_cases d : inB (f y).1 (f y).2.1 (-1000000000) 1000000000 = true
      · rw [if_pos d] at h
        rcases List.mem_cons.1 hx with rfl | hx
        · exact ⟨by simpa using c, d⟩
        · exact buildE_ok h x hx
      · rw [if_neg d] at h; cases h
end

section
open Go.RowKit

def okPts (e : Int) (P : List (Int × Int × Int)) : List (Int × Int × Int) := if e = 0 then P else []
theorem okPts_ok (P : List (Int × Int × Int)) : okPts 0 P = P := rfl
theorem okPts_bad {e : Int} (h : e ≠ 0) (P : List (Int × Int × Int)) (m : Nat) (w : World) : OwnPts m w (.slice none 0 0) (okPts e P) := by
  unfold okPts; rw [if_neg h]; exact World.ownsRow_nil _ _ _ _

def buildErr (f : Int → Int × Int × Int) (L : List Int) : Int := if 40 < L.length then 2 else buildE f L
theorem buildE_take (f : Int → Int × Int × Int) : ∀ (L : List Int) (k : Nat), buildE f (L.take k) ≠ 0 → buildE f L = buildE f (L.take k)
  | [], k, h => by simp
  | x :: L, 0, h => by simp [buildE] at h
  | x :: L, k + 1, h => by
    rw [List.take_succ_cons] at h ⊢
    unfold buildE at h ⊢
    by_cases c : (f x).2.2 ≠ 0
    · rw [if_pos c, if_pos c]
    · rw [if_neg c] at h ⊢
      rw [if_neg c]
      by_cases d : inB (f x).1 (f x).2.1 (-1000000000) 1000000000 = true
      · rw [if_pos d] at h ⊢; rw [if_pos d]; exact buildE_take f L k h
      · rw [if_neg d, if_neg d]
set_option maxRecDepth 100000 in
set_option maxHeartbeats 4000000 in
theorem build_all (b o n c Bw Bt Bu : Nat) (L : List Int) (f : Int → Int × Int × Int) (w : World) (hn : n = L.length) (h1000 : n ≤ 1000) (hb : b < w.heap.size) (hc : IntsMem w b o L)
    (hask : ∀ x ∈ L, ∀ W, Below w.heap.size w W → Calls Try.prog 136 #[.int .i64 x, .pointer (some ⟨Bw, 0, none⟩), .pointer (some ⟨Bt, 0, none⟩), .pointer (some ⟨Bu, 0, none⟩)] W fun e w' => e = .returned (rt (f x)) ∧ Below W.heap.size W w')
    :
    Calls Try.prog 94 #[.slice (some ⟨b, o, none⟩) n c, .func (.func 136) #[] #[.pointer (some ⟨Bw, 0, none⟩), .pointer (some ⟨Bt, 0, none⟩), .pointer (some ⟨Bu, 0, none⟩)]] w fun e w' =>
      ∃ v, e = .returned (.tuple #[.agg #[v], .int .i64 (buildErr f L)]) ∧ OwnPts w.heap.size w' v (okPts (buildErr f L) (built f L)) ∧ Below w.heap.size w w' := by
  obtain ⟨i0, hi, hz0, hz1, hz2⟩ := info_parts Try.infoP
  by_cases h40 : n ≤ 40
  case neg =>
    have he : buildErr f L = 2 := by unfold buildErr; rw [if_pos (by omega)]
    rw [he]
    have t1 : (40 : Int) < (n : Int) := by omega
    have bT := Blk.new w 43 #[.slice none 0 0]
    have r0 := bT.cell 0
    have f0 := bT.frozen 0
    have lT := bT.lt
    simp at r0
    clear hn hc hask he bT
    go_enter Try.func94, Try.ntmps94
    go_wp2
    refine bodyPost_ret (v := .tuple #[.agg #[.slice none 0 0], .int .i64 2]) (by simp [results, Try.results94, go_sem]) rfl ⟨.slice none 0 0, rfl, okPts_bad (by omega) _ _ _, ?_⟩
    first | exact below_alloc1 _ _ | exact (below_alloc1 w _).setCell (p := ⟨w.heap.size, 0, none⟩) (Nat.le_refl _) _
  have hBE : buildErr f L = buildE f L := by unfold buildErr; rw [if_neg (by omega)]
  rw [hBE]
  obtain ⟨E, hE⟩ : ∃ E, buildE f L = E := ⟨_, rfl⟩
  rw [hE]
  have HN := Lib.hid hn; have HC := Lib.hid hc; have HA := Lib.hid hask; have HEE := Lib.hid hE
  clear hn hc hask hBE hE
  have t1 : ¬ (40 : Int) < (n : Int) := by omega
  go_enter Try.func94, Try.ntmps94
  go_wp2_with fail
  go_loopw [6, 17] (fun v i wr => ∃ k : Nat, k ≤ n ∧ i = .int .i64 k ∧ OwnPts (w.heap.size + 1) wr v (built f (L.take k)) ∧ Blk wr w.heap.size 43 #[.slice none 0 0] ∧ Below w.heap.size w wr ∧ Hid (buildE f (L.take k) = 0)) (fun _ i _ => n - (intOf i).toNat)
  case atStart => exact ⟨0, by omega, rfl, World.ownsRow_nil _ _ _ _, Blk.new w 43 _, (Below.refl _ _).alloc (Nat.le_refl _) _, Lib.hid rfl⟩
  case round =>
    obtain ⟨k, hk, rfl, hown, hT, hB, HZ⟩ := hrel
    by_cases hlt : k < n
    · have hp : ∃ p, L[k]? = some p := ⟨_, List.getElem?_eq_getElem (show k < L.length by rw [← HN.out]; exact hlt)⟩
      obtain ⟨x, hp⟩ := hp
      have hxm : x ∈ L := List.mem_of_getElem? hp
      have c0 := HC.out k x hp
      rw [← hB.cell (p := ⟨b, o + k, none⟩) hb] at c0
      have hA := HA.out x hxm
      have hS : built f (L.take (k + 1)) = built f (L.take k) ++ [(x, (f x).1, (f x).2.1)] := by unfold built; rw [take_snocP' hp, List.map_append]; rfl
      have hlen : (built f (L.take k)).length = k := by unfold built; rw [List.length_map, List.length_take]; have := HN.out; omega
      have hstep := buildE_snoc f (L.take k) x HZ.out
      rw [← take_snocP' hp] at hstep
      have hwhole := buildE_take f L (k + 1)
      obtain ⟨⟨lo, hi', er⟩, hr⟩ : ∃ r, f x = r := ⟨_, rfl⟩
      have h1x : buildE f [x] = if er ≠ 0 then er else if inB lo hi' (-1000000000) 1000000000 = true then 0 else 5 := by simp only [buildE, hr]
      rw [hr] at hS hA
      dsimp only at hS
      have HS := Lib.hid hS; have HAx := Lib.hid hA; have HL := Lib.hid hlen; have HW := Lib.hid hown; have HB := Lib.hid hB; have HT := Lib.hid hT
      have HX := Lib.hid (And.intro hstep (And.intro hwhole h1x))
      clear hS hA hlen hown hp hB hT hr hstep hwhole h1x
      by_cases her : er ≠ 0
      · have hEr : E = er := by rw [← HEE.out, HX.out.2.1 (by rw [HX.out.1, HX.out.2.2, if_pos her]; exact her), HX.out.1, HX.out.2.2, if_pos her]
        have hz : (er == 0) = false := beq_eq_false_iff_ne.2 her
        have HER := Lib.hid hEr; have HNE := Lib.hid her
        clear hEr her
        go_wp2_with fail
        refine (HAx.out wr HB.out).mono ?_
        rintro e w1 ⟨rfl, hb1⟩
        have hT1 := blkOn HT.out hb1
        have HB1 := Lib.hid (below_then HB.out hb1)
        have r0 := hT1.cell 0
        have f0 := hT1.frozen 0
        have lT := hT1.lt
        simp at r0
        clear hb1 hT1
        go_wp2
        refine bodyPost_ret (v := .tuple #[.agg #[.slice none 0 0], .int .i64 er]) (by simp [results, Try.results94, go_sem, r0, lT]) rfl ⟨.slice none 0 0, by rw [HER.out], okPts_bad (by rw [HER.out]; exact HNE.out) _ _ _, ?_⟩
        first
          | exact (below_then HB1.out (below_alloc1 w1 _)).setCell (p := ⟨w.heap.size, 0, none⟩) (Nat.le_refl _) _
          | exact (HB1.out.setCell (p := ⟨w.heap.size, 0, none⟩) (Nat.le_refl _) _).alloc (by have := HB1.out.size; simp [World.setCell]; omega) _
      have her0 : er = 0 := by omega
      subst her0
      by_cases hin : inB lo hi' (-1000000000) 1000000000 = true
      case neg =>
        have hE5 : E = 5 := by rw [← HEE.out, HX.out.2.1 (by rw [HX.out.1, HX.out.2.2, if_neg (by omega), if_neg hin]; omega), HX.out.1, HX.out.2.2, if_neg (by omega), if_neg hin]
        have HIN := Lib.hid (Bool.eq_false_iff.2 hin)
        have HE5 := Lib.hid hE5
        clear hin her hE5
        go_wp2_with fail
        refine (HAx.out wr HB.out).mono ?_
        rintro e w1 ⟨rfl, hb1⟩
        have hB1 : Below w.heap.size w w1 := below_then HB.out hb1
        have bR := Blk.new w1 23 #[.int .i64 lo, .int .i64 hi']
        have hB2 : Below w.heap.size w (w1.alloc (.cells #[.int .i64 lo, .int .i64 hi'] 23)) := hB1.alloc hB1.size _
        have hT2 := (HT.out.below hb1 HT.out.lt).alloc (.cells #[.int .i64 lo, .int .i64 hi'] 23)
        have HT2 := Lib.hid hT2; clear hT2
        have HB2 := Lib.hid hB2; have HR := Lib.hid bR
        clear hB1 bR hB2 hb1
        go_wp2_with fail
        obtain ⟨W2, hW2⟩ : ∃ W2, w1.alloc (.cells #[.int .i64 lo, .int .i64 hi'] 23) = W2 := ⟨_, rfl⟩
        rw [hW2] at HB2 HR HT2 ⊢
        clear hW2
        have z0 := HR.out.cell 0
        have z1 := HR.out.cell 1
        simp at z0 z1
        have lR : w1.heap.size < W2.drew.heap.size := HR.out.lt
        go_region_held3 (fun w' => w'.cell? ⟨w1.heap.size, 0, none⟩ = some (.int .i64 lo) ∧ w'.cell? ⟨w1.heap.size, 1, none⟩ = some (.int .i64 hi'))
          (first | (go_keep; done) | exact keepR hb4 ‹_› (Nat.lt_of_lt_of_le lR hb3.size) | exact keepR hb3 ‹_› lR)
          (first
            | (go_at_call 82; refine (around_any 1000000000 W2.drew (by omega) (by omega)).mono ?_; rintro e w3 ⟨rfl, hb3⟩)
            | (go_at_call 87; refine (within_to lo hi' (-1000000000) 1000000000 false w3 HIN.out).mono ?_; rintro e w4 ⟨rfl, hb4⟩))
        all_goals
          have hB4 : Below w.heap.size w w4 := below_then (below_then HB2.out (below_d hb3)) hb4
          have hT4 := (HT2.out.drew.below hb3 (show w.heap.size < W2.drew.heap.size from HT2.out.lt)).below hb4 (Nat.lt_of_lt_of_le (show w.heap.size < W2.drew.heap.size from HT2.out.lt) hb3.size)
          have HB4 := Lib.hid hB4
          have r0 := hT4.cell 0
          have f0 := hT4.frozen 0
          have lT := hT4.lt
          simp at r0
          clear hB4 hT4 hb3 hb4 lR z0 z1
          go_wp2
          refine bodyPost_ret (v := .tuple #[.agg #[.slice none 0 0], .int .i64 5]) (by simp [results, Try.results94, go_sem, r0, lT]) rfl ⟨.slice none 0 0, by rw [HE5.out], okPts_bad (by rw [HE5.out]; omega) _ _ _, ?_⟩
          first
            | exact HB4.out.setCell (p := ⟨w.heap.size, 0, none⟩) (Nat.le_refl _) _
            | exact (below_then HB4.out (below_alloc1 w4 _)).setCell (p := ⟨w.heap.size, 0, none⟩) (Nat.le_refl _) _
            | exact (HB4.out.setCell (p := ⟨w.heap.size, 0, none⟩) (Nat.le_refl _) _).alloc (by have := HB4.out.size; simp [World.setCell]; omega) _
      have HIN := Lib.hid hin
      have HNX : Hid (buildE f (L.take (k + 1)) = 0) := Lib.hid (by rw [HX.out.1, HX.out.2.2, if_neg (by omega), if_pos hin])
      clear hin her
      go_wp2_with fail
      refine (HAx.out wr HB.out).mono ?_
      rintro e w1 ⟨rfl, hb1⟩
      have hB1 : Below w.heap.size w w1 := below_then HB.out hb1
      have hw1 := HW.out.grown (below_grownNone hb1) (fun _ e => by cases e)
      have bR := Blk.new w1 23 #[.int .i64 lo, .int .i64 hi']
      have hB2 : Below w.heap.size w (w1.alloc (.cells #[.int .i64 lo, .int .i64 hi'] 23)) := hB1.alloc hB1.size _
      have hw2 := hw1.grown (World.grownBy_alloc w1 (.cells #[.int .i64 lo, .int .i64 hi'] 23) none) (fun _ e => by cases e)
      have hT2 := (HT.out.below hb1 HT.out.lt).alloc (.cells #[.int .i64 lo, .int .i64 hi'] 23)
      have HT2 := Lib.hid hT2; clear hT2
      have HB2 := Lib.hid hB2; have HW2 := Lib.hid hw2; have HR := Lib.hid bR
      clear hB1 hw1 bR hB2 hw2 hb1
      go_wp2_with fail
      obtain ⟨W2, hW2⟩ : ∃ W2, w1.alloc (.cells #[.int .i64 lo, .int .i64 hi'] 23) = W2 := ⟨_, rfl⟩
      rw [hW2] at HB2 HW2 HR HT2 ⊢
      clear hW2
      have z0 := HR.out.cell 0
      have z1 := HR.out.cell 1
      simp at z0 z1
      have lR : w1.heap.size < W2.drew.heap.size := HR.out.lt
      go_region_held3 (fun w' => w'.cell? ⟨w1.heap.size, 0, none⟩ = some (.int .i64 lo) ∧ w'.cell? ⟨w1.heap.size, 1, none⟩ = some (.int .i64 hi'))
        (first | (go_keep; done) | exact keepR hb4 ‹_› (Nat.lt_of_lt_of_le lR hb3.size) | exact keepR hb3 ‹_› lR)
        (first
          | (go_at_call 82; refine (around_any 1000000000 W2.drew (by omega) (by omega)).mono ?_; rintro e w3 ⟨rfl, hb3⟩)
          | (go_at_call 87; refine (within_to lo hi' (-1000000000) 1000000000 true w3 HIN.out).mono ?_; rintro e w4 ⟨rfl, hb4⟩))
      all_goals
        have hB4 : Below w.heap.size w w4 := below_then (below_then HB2.out (below_d hb3)) hb4
        have hw4 := (HW2.out.grown (below_grownNone (below_d hb3)) (fun _ e => by cases e)).grown (below_grownNone hb4) (fun _ e => by cases e)
        have hT4 := (HT2.out.drew.below hb3 (show w.heap.size < W2.drew.heap.size from HT2.out.lt)).below hb4 (Nat.lt_of_lt_of_le (show w.heap.size < W2.drew.heap.size from HT2.out.lt) hb3.size)
        have HT4 := Lib.hid (hT4.alloc (.cells #[.int .i64 x, .int .i64 lo, .int .i64 hi'] 87))
        have ltT := hT4.lt
        have hR4 := (HR.out.drew.below hb3 lR).below hb4 (Nat.lt_of_lt_of_le lR hb3.size)
        have y0 := hR4.cell 0
        have y1 := hR4.cell 1
        simp at y0 y1
        have HO2 := Lib.hid (World.ownsRow.alloc (o := .cells #[.int .i64 x, .int .i64 lo, .int .i64 hi'] 87) (show w4.ownsRow (w.heap.size + 1) 87 3 _ _ _ from hw4))
        have HB4 := Lib.hid hB4
        have hcell : ∀ (j : Nat) (u : Value), [Value.int .i64 x, .int .i64 lo, .int .i64 hi'][j]? = some u → (w4.alloc (.cells #[.int .i64 x, .int .i64 lo, .int .i64 hi'] 87)).cell? ((⟨w4.heap.size, 0, none⟩ : Addr).add j) = some u :=
          World.news_of_block (cs := #[.int .i64 x, .int .i64 lo, .int .i64 hi']) (t := 87) (fr := (0, 0)) (heap_alloc_new w4 _)
        have HCE := Lib.hid hcell
        have lR4 : w1.heap.size < w4.heap.size := Nat.lt_of_lt_of_le (Nat.lt_of_lt_of_le lR hb3.size) hb4.size
        clear hB4 hw4 hR4 hT4 hcell hb3 hb4 lR z0 z1
        go_wp2_with (at_builtin; refine wpList_append_own _ rfl (.tmp 36) (.tmp 43) 41 rfl (w.heap.size + 1) 87 i0 (.agg #[.int .i64 0, .int .i64 0, .int .i64 0]) 3 24 Try.underlying41 hi hz0 hz1 hz2 rfl (by decide) _ _ _ rfl HO2.out ⟨w4.heap.size, 0, none⟩ 1 1 [.int .i64 x, .int .i64 lo, .int .i64 hi'] rfl rfl HCE.out ?c2 ?c3 ?c4 ?c5 ?_)
        case c2 => simp [Value.oneCell']
        case c3 => simp only [maxLen]; rw [HL.out]; omega
        case c4 => rw [HL.out]; omega
        case c5 => simp; omega
        intro v' w5 hown1 hgrow _
        have hrow : ∀ j, Value.ownBlock u6 = some j → w.heap.size + 1 ≤ j := fun j e => (HO2.out.lt j e).1
        have hB5 : Below w.heap.size w w5 := (HB4.out.alloc HB4.out.size _).grown hgrow (by have := HB4.out.size; simp; omega) (fun j e => Nat.le_trans (Nat.le_succ _) (hrow j e))
        have hT5 := HT4.out.grown hgrow (fun e => absurd (hrow _ e.symm) (by omega))
        have hown2 : OwnPts (w.heap.size + 1) w5 v' (built f (L.take (k + 1))) := by
          unfold OwnPts
          rw [HS.out, List.length_append, ptCells_snoc]
          exact hown1
        clear hown1 hgrow
        go_wp2
        go_roundw
        case rel => exact ⟨k + 1, by omega, by go_num, hown2, hT5, hB5, HNX⟩
        case measure => simp [intOf]; omega
    · have hkl : L.take k = L := List.take_of_length_le (by have := HN.out; omega)
      have hE0 : E = 0 := by have := HZ.out; rw [hkl, HEE.out] at this; exact this
      subst hE0
      have hkn : built f (L.take k) = built f L := by rw [hkl]
      clear hkl
      rw [hkn] at hown
      obtain ⟨sp, sn, sc, rfl⟩ := hown.slice
      have HW := Lib.hid hown
      have r0 := hT.cell 0
      have f0 := hT.frozen 0
      have lT := hT.lt
      simp at r0
      have HT := Lib.hid hT
      clear hown hT hkn
      go_wp2
      have hown2 : OwnPts (w.heap.size + 1) (wr.setCell ⟨w.heap.size, 0, none⟩ (.slice sp sn sc)) (.slice sp sn sc) (built f L) := by
        refine World.ownsRow.kept (show wr.ownsRow (w.heap.size + 1) 87 3 _ _ _ from HW.out) (grownBy_setCell' wr w.heap.size _) (.inr ?_)
        intro e
        have := (World.ownsRow.lt (show wr.ownsRow (w.heap.size + 1) 87 3 _ _ _ from HW.out) _ e).1
        omega
      have hB5 : Below w.heap.size w (wr.setCell ⟨w.heap.size, 0, none⟩ (.slice sp sn sc)) := hB.setCell (p := ⟨w.heap.size, 0, none⟩) (by simp) _
      refine bodyPost_ret (v := .tuple #[.agg #[.slice sp sn sc], .int .i64 0]) (by simp [results, Try.results94, go_sem, r0, lT]) rfl ⟨.slice sp sn sc, rfl, by rw [okPts_ok]; exact World.ownsRow.mono hown2 (by omega), hB5⟩
end

section
open Go.RowKit

/-- A table of the call's own, or none, given back with a word beside it. -/
def GivesTabE (w : World) (E : Int) (L : List P3) (e : Ending) (w' : World) : Prop := ∃ v, e = .returned (.tuple #[.agg #[v], .int .i64 E]) ∧ OwnPts w.heap.size w' v (okPts E L) ∧ Below w.heap.size w w'

set_option maxRecDepth 100000 in
set_option maxHeartbeats 4000000 in
theorem combine_plusE (b o n c b' o' n' c' : Nat) (ps qs : List P3) (LO HI : Int) (L : List Int) (w : World)
    (hn : n = ps.length) (h2 : 1 ≤ n) (ht : tabOk ps = true) (hn' : n' = qs.length) (h2' : 1 ≤ n') (ht' : tabOk qs = true)
    (hb : b < w.heap.size) (hb' : b' < w.heap.size) (hc : PtsAt w b o ps) (hc' : PtsAt w b' o' qs)
    (hLO : max (firstX ps) (firstX qs) = LO) (hHI : min (lastX ps) (lastX qs) = HI) (hov : LO ≤ HI)
    (hL : L.Pairwise (· < ·)) (hm : ∀ x, x ∈ L ↔ x ∈ cornersS ps LO HI ++ cornersS qs LO HI) :
    Calls Try.prog 115 #[tv (some ⟨b, o, none⟩) n c, tv (some ⟨b', o', none⟩) n' c', addFn] w (GivesTabE w (buildErr (plusAt ps qs) L) (built (plusAt ps qs) L)) := by
  obtain ⟨i0, hi, hz0, hz1, hz2⟩ := info_parts Try.info3
  have hp40 := (tabOk_len ht).2
  have hq40 := (tabOk_len ht').2
  have hml : n ≤ maxLen := by unfold maxLen; omega
  have hml' : n' ≤ maxLen := by unfold maxLen; omega
  have hn40 : n ≤ 40 := by omega
  have hn40' : n' ≤ 40 := by omega
  obtain ⟨pl1, pl2⟩ := places_in ht
  obtain ⟨ql1, ql2⟩ := places_in ht'
  have hLx : ∀ x ∈ L, 0 ≤ x ∧ x ≤ 1000000 := fun x hx => by
    rcases List.mem_append.1 ((hm x).1 hx) with h | h <;> rcases corners_mem h with h | h <;> omega
  have hlen1 := corners_len ps LO HI hp40
  have hlen2 := corners_len qs LO HI hq40
  have tle : ¬ HI < LO := by omega
  have HN := Lib.hid (And.intro hn (And.intro ht (And.intro hn' ht'))); clear hn ht hn' ht'
  have HL := Lib.hid (And.intro hL (And.intro hm (And.intro trivial hLx))); clear hL hm hLx
  have HD := Lib.hid (And.intro hLO hHI); clear hLO hHI pl1 pl2 ql1 ql2 hov
  have hJ : Joined ((((w.alloc (.cells #[.slice (some ⟨b, o, none⟩) n c] 43)).alloc (.cells #[.slice (some ⟨b', o', none⟩) n' c'] 43)).alloc (.cells #[addFn] 28)).alloc (.cells #[.slice none 0 0] 43)) (w.heap.size + 1 + 1) w.heap.size (w.heap.size + 1) b o n c b' o' n' c' ps qs := by
    have hE : Below w.heap.size w ((((w.alloc (.cells #[.slice (some ⟨b, o, none⟩) n c] 43)).alloc (.cells #[.slice (some ⟨b', o', none⟩) n' c'] 43)).alloc (.cells #[addFn] 28)).alloc (.cells #[.slice none 0 0] 43)) := below_a2 (below_a2 (Below.refl _ _))
    refine ⟨?_, ?_, ?_, hc.below hE hb, hc'.below hE hb', Nat.lt_of_lt_of_le hb hE.size, Nat.lt_of_lt_of_le hb' hE.size⟩
    · have h := (Blk.new ((w.alloc (.cells #[.slice (some ⟨b, o, none⟩) n c] 43)).alloc (.cells #[.slice (some ⟨b', o', none⟩) n' c'] 43)) 28 #[addFn]).alloc (.cells #[.slice none 0 0] 43)
      simpa only [World.size_alloc] using h
    · exact (((Blk.new w 43 #[.slice (some ⟨b, o, none⟩) n c]).alloc _).alloc _).alloc _
    · have h := ((Blk.new (w.alloc (.cells #[.slice (some ⟨b, o, none⟩) n c] 43)) 43 #[.slice (some ⟨b', o', none⟩) n' c']).alloc (.cells #[addFn] 28)).alloc (.cells #[.slice none 0 0] 43)
      simpa only [World.size_alloc] using h
  have hT := Blk.new (((w.alloc (.cells #[.slice (some ⟨b, o, none⟩) n c] 43)).alloc (.cells #[.slice (some ⟨b', o', none⟩) n' c'] 43)).alloc (.cells #[addFn] 28)) 43 #[.slice none 0 0]
  simp only [World.size_alloc] at hT
  have hE : Below w.heap.size w ((((w.alloc (.cells #[.slice (some ⟨b, o, none⟩) n c] 43)).alloc (.cells #[.slice (some ⟨b', o', none⟩) n' c'] 43)).alloc (.cells #[addFn] 28)).alloc (.cells #[.slice none 0 0] 43)) := below_a2 (below_a2 (Below.refl _ _))
  have HJ := Lib.hid hJ; have HT := Lib.hid hT; have HE := Lib.hid hE
  clear hJ hT hE hc hc'
  go_enter Try.func115, Try.ntmps115
  go_wp2_with fail
  obtain ⟨W0, hW0⟩ : ∃ W0, ((((w.alloc (.cells #[.slice (some ⟨b, o, none⟩) n c] 43)).alloc (.cells #[.slice (some ⟨b', o', none⟩) n' c'] 43)).alloc (.cells #[addFn] 28)).alloc (.cells #[.slice none 0 0] 43)) = W0 := ⟨_, rfl⟩
  rw [hW0] at HJ HT HE ⊢
  clear hW0
  refine (checkTable_to _ n c ps _ _ _ HN.out.1 hml (HJ.out.2.2.2.1.pts HJ.out.2.2.2.2.2.1) HN.out.2.1 rfl).mono ?_
  rintro e w1 ⟨rfl, hb1⟩
  have HJ1 := Lib.hid (HJ.out.below hb1); have HT1 := Lib.hid (blkOn HT.out hb1); have HE1 := Lib.hid (below_then HE.out hb1)
  clear hb1
  have c1 := HJ1.out.2.2.1.cell 0
  simp at c1
  go_wp2_with fail
  refine (checkTable_to _ n' c' qs _ _ _ HN.out.2.2.1 hml' (HJ1.out.2.2.2.2.1.pts HJ1.out.2.2.2.2.2.2) HN.out.2.2.2 rfl).mono ?_
  rintro e w2 ⟨rfl, hb2⟩
  have HJ2 := Lib.hid (HJ1.out.below hb2); have HT2 := Lib.hid (blkOn HT1.out hb2); have HE2 := Lib.hid (below_then HE1.out hb2)
  clear hb2 c1
  have l0 : w.heap.size < w2.heap.size := HJ2.out.2.1.lt
  have l1 : w.heap.size + 1 < w2.heap.size := HJ2.out.2.2.1.lt
  have c0 := HJ2.out.2.1.cell 0
  have c1 := HJ2.out.2.2.1.cell 0
  simp at c0 c1
  have HD1 : Hid (∀ W, Below w2.heap.size w2 W → Calls Try.prog 118 #[tv (some ⟨b, o, none⟩) n c] W fun e w' => e = .returned (rv (firstX ps) (lastX ps)) ∧ Below W.heap.size W w') :=
    Lib.hid fun W hW => domain_tab _ n c ps W HN.out.1 ((HJ2.out.below hW).2.2.2.1.pts (HJ2.out.below hW).2.2.2.2.2.1) HN.out.2.1
  have HD2 : Hid (∀ W, Below w2.heap.size w2 W → Calls Try.prog 118 #[tv (some ⟨b', o', none⟩) n' c'] W fun e w' => e = .returned (rv (firstX qs) (lastX qs)) ∧ Below W.heap.size W w') :=
    Lib.hid fun W hW => domain_tab _ n' c' qs W HN.out.2.2.1 ((HJ2.out.below hW).2.2.2.2.1.pts (HJ2.out.below hW).2.2.2.2.2.2) HN.out.2.2.2
  go_upto_region 3 with fail
  go_cut [8] (fun s8 wx => ∃ B, s8 = .pointer (some ⟨B, 0, none⟩) ∧ Blk wx B 23 #[.int .i64 LO, .int .i64 HI] ∧ w2.heap.size ≤ B ∧ Below w2.heap.size w2 wx)
  case first =>
    go_region_held3 (fun w' => w'.cell? ⟨w.heap.size, 0, none⟩ = some (.slice (some ⟨b, o, none⟩) n c) ∧ w'.cell? ⟨w.heap.size + 1, 0, none⟩ = some (.slice (some ⟨b', o', none⟩) n' c') ∧ Below w2.heap.size w2 w')
      (first | exact ⟨c0, c1, (Below.refl _ _).drew⟩ | exact keepC (by assumption) (by assumption) l0 l1 | exact keepCa (by assumption) l0 l1 | exact keepCs (by assumption) l0 l1 (by first | exact Nat.le_refl _ | assumption))
      (first
        | (go_at_call 118; (with_reducible refine (HD1.out _ (belowOf (by assumption))).mono ?_); rintro e w3 ⟨rfl, hb3⟩; have s3 := (below_then (belowOf (W2 := w2) (A := w.heap.size) (B := w.heap.size + 1) (by assumption)) hb3).size; (try have N1 : Blk w3 w2.heap.size 23 #[.int .i64 0, .int .i64 0] := blkNewD hb3))
        | (go_at_call 118; (with_reducible refine (HD2.out _ (belowOf (by assumption))).mono ?_); rintro e w4 ⟨rfl, hb4⟩; have s4 := (below_then (belowOf (W2 := w2) (A := w.heap.size) (B := w.heap.size + 1) (by assumption)) hb4).size; (first | with_reducible have N2 := blkNew hb4 | have N2 := blkOn N1 hb4 | skip))
        | (go_at_call 86; refine (common_to _ _ _ _ LO HI _ HD.out.1 HD.out.2).mono ?_; rintro e w5 ⟨rfl, hb5⟩; have T5 := keepC (W2 := w2) (A := w.heap.size) (B := w.heap.size + 1) hb5 (by assumption) l0 l1; (first | (with_reducible have N3 := blkNew hb5; have d0 := N3.cell 0; have d1 := N3.cell 1; have d2 := N3.frozen 0; have d3 := N3.frozen 1; simp at d0 d1) | (have N3 := blkOn N2 hb5; have d0 := N3.cell 0; have d1 := N3.cell 1; have d2 := N3.frozen 0; have d3 := N3.frozen 1; simp at d0 d1) | skip)))
    all_goals go_wp2_with fail
    all_goals go_meet
    all_goals (first
      | exact ⟨_, rfl, Blk.new _ _ _, T5.2.2.size, T5.2.2.alloc T5.2.2.size _⟩
      | exact ⟨_, rfl, blk2 N3 LO HI, s4, (T5.2.2.setCell (p := ⟨_, 0, none⟩) s4 _).setCell (p := ⟨_, 1, none⟩) s4 _⟩
      | exact ⟨_, rfl, blk2 N3 LO HI, s3, (T5.2.2.setCell (p := ⟨_, 0, none⟩) s3 _).setCell (p := ⟨_, 1, none⟩) s3 _⟩
      | exact ⟨_, rfl, blk2 N3 LO HI, Nat.le_refl _, (T5.2.2.setCell (p := ⟨_, 0, none⟩) (Nat.le_refl _) _).setCell (p := ⟨_, 1, none⟩) (Nat.le_refl _) _⟩)
  case rest =>
    obtain ⟨B, rfl, hBk, hB2, hbc⟩ := hcut
    have HJc := Lib.hid (HJ2.out.below hbc); have HTc := Lib.hid (blkOn HT2.out hbc); have HEc := Lib.hid (below_then HE2.out hbc)
    have z0 := hBk.cell 0
    have z1 := hBk.cell 1
    have lB := hBk.lt
    simp at z0 z1
    have HBk := Lib.hid hBk
    clear hBk hbc c0 c1 HD1 HD2
    obtain ⟨L1, hL1⟩ : ∃ L1, cornersS ps LO HI = L1 := ⟨_, rfl⟩
    obtain ⟨L2, hL2⟩ : ∃ L2, cornersS qs LO HI = L2 := ⟨_, rfl⟩
    have hne1 := corners_ne ps LO HI
    have hne2 := corners_ne qs LO HI
    rw [hL1] at hlen1 hne1
    rw [hL2] at hlen2 hne2
    have hpos2 : 0 < L2.length := List.length_pos_iff.2 hne2
    have K1 : Hid (∀ W, Below wc.heap.size wc W → Calls Try.prog 95 #[tv (some ⟨b, o, none⟩) n c, .int .i64 LO, .int .i64 HI] W (GivesInts W L1)) :=
      Lib.hid fun W hW => by
        rw [← hL1]
        exact corners_any b o n c ps LO HI W HN.out.1 (by omega) hn40 (HJc.out.below hW).2.2.2.2.2.1 (HJc.out.below hW).2.2.2.1
    have K2 : Hid (∀ W, Below wc.heap.size wc W → Calls Try.prog 95 #[tv (some ⟨b', o', none⟩) n' c', .int .i64 LO, .int .i64 HI] W (GivesInts W L2)) :=
      Lib.hid fun W hW => by
        rw [← hL2]
        exact corners_any b' o' n' c' qs LO HI W HN.out.2.2.1 (by omega) hn40' (HJc.out.below hW).2.2.2.2.2.2 (HJc.out.below hW).2.2.2.2.1
    have HC := Lib.hid (And.intro hL1 (And.intro hL2 (And.intro hne1 hne2))); clear hL1 hL2 hne1 hne2
    have l0 : w.heap.size < wc.heap.size := HJc.out.2.1.lt
    have l1 : w.heap.size + 1 < wc.heap.size := HJc.out.2.2.1.lt
    have c0 := HJc.out.2.1.cell 0
    have c1 := HJc.out.2.2.1.cell 0
    simp at c0 c1
    go_wp2_with fail
    go_region_held3 (fun w' => w'.cell? ⟨w.heap.size, 0, none⟩ = some (.slice (some ⟨b, o, none⟩) n c) ∧ w'.cell? ⟨w.heap.size + 1, 0, none⟩ = some (.slice (some ⟨b', o', none⟩) n' c') ∧ w'.cell? ⟨B, 0, none⟩ = some (.int .i64 LO) ∧ w'.cell? ⟨B, 1, none⟩ = some (.int .i64 HI) ∧ Below wc.heap.size wc w')
      (first | assumption | exact mkE (Below.refl _ _).drew ⟨c0, c1, z0, z1⟩ l0 l1 lB | exact mkE (below_then (belowE (by assumption)) (by assumption)) ⟨c0, c1, z0, z1⟩ l0 l1 lB | exact mkE E8 ⟨c0, c1, z0, z1⟩ l0 l1 lB)
      (first
        | (go_at_call 95; (with_reducible refine (K1.out _ (belowE (by assumption))).mono ?_); rintro e w6 ⟨v1, rfl, ho1, hb6⟩; have E6 := below_then (belowE (W2 := wc) (A := w.heap.size) (B := w.heap.size + 1) (C := B) (by assumption)) hb6)
        | (go_at_call 95; (with_reducible refine (K2.out _ (belowE (by assumption))).mono ?_); rintro e w7 ⟨v2, rfl, ho2, hb7⟩; have E7 := below_then E6 hb7; obtain ⟨pg, cap2, rfl, hpg, hpl, hcell⟩ := OwnInts.cells ho2 HC.out.2.2.2; have HO1 := Lib.hid (World.ownsRow.mono (ho1.below hb7) (show wc.heap.size ≤ _ from Nat.le_refl _)); have HN2 := Lib.hid (newsInts hcell); have HB7 := Lib.hid E7; clear ho2 hcell ho1)
        | (refine step_append_lies _ (by rfl) _ _ _ (by rfl) wc.heap.size 3 i0 _ 1 8 Try.underlying44 hi hz0 hz1 hz2 rfl (by omega) v1 (ints L1).length (ints L1) (by rfl) (by exact HO1.out) ⟨pg, 0, none⟩ L2.length cap2 (ints L2) (by rfl) (by simp) HN2.out (ints_one L2) (by omega) (by simp [maxLen]; omega) (by simp; omega) HB7.out.size _ rfl ?_; intro gg cap3 w8 hown8 hgrow hat hlt; have E8 : Below wc.heap.size wc w8 := HB7.out.grown hgrow HB7.out.size (fun k hk => (World.ownsRow.lt HO1.out k hk).1))
        | fail)
    have HO8 : Hid (OwnInts wc.heap.size w8 (.slice (some ⟨gg, 0, none⟩) (L1.length + L2.length) cap3) (L1 ++ L2)) := Lib.hid (by unfold OwnInts; simpa using hown8)
    have HE8 := Lib.hid E8
    clear hown8 hgrow hat hlt E8 E6 E7 HO1 HN2 HB7 hb6 hb7 K1 K2 z0 z1 c0 c1
    have hne : L1 ++ L2 ≠ [] := by simp [HC.out.2.2.1]
    have HNE := Lib.hid hne; clear hne
    go_wp2_with fail
    refine (sort_own wc.heap.size _ (L1 ++ L2) w8 HO8.out HNE.out (by simp; omega)).mono ?_
    rintro e w9 ⟨rfl, ho9, hg9⟩
    have E9 := HE8.out.grown hg9 HE8.out.size (fun k hk => (World.ownsRow.lt HO8.out k hk).1)
    have HO9 := Lib.hid ho9; have HE9 := Lib.hid E9
    clear ho9 hg9 E9
    go_wp2_with fail
    refine (compact_own wc.heap.size _ _ w9 HO9.out (fun h => HNE.out (by have h1 := congrArg List.length h; rw [List.length_mergeSort] at h1; exact List.eq_nil_of_length_eq_zero h1))).mono ?_
    rintro e w10 ⟨v', rfl, ho10, hob, hg10⟩
    have E10 := HE9.out.grown hg10 HE9.out.size (fun k hk => (World.ownsRow.lt HO9.out k hk).1)
    have hmem : ∀ x, x ∈ L ↔ x ∈ L1 ++ L2 := by rw [← HC.out.1, ← HC.out.2.1]; exact HL.out.2.1
    rw [compact_sorted (L1 ++ L2) L HL.out.1 hmem] at ho10
    have h1000 : L.length ≤ 1000 := by
      have h1 := compact_len_le ((L1 ++ L2).mergeSort fun x y => decide (x ≤ y))
      rw [compact_sorted (L1 ++ L2) L HL.out.1 hmem, List.length_mergeSort, List.length_append] at h1
      omega
    have hneL : L ≠ [] := by
      intro h
      obtain ⟨x, hx⟩ := List.exists_mem_of_ne_nil _ HNE.out
      have := (hmem x).2 hx
      rw [h] at this; cases this
    obtain ⟨pg2, cap4, rfl, hpg2, hpl2, hcell2⟩ := ho10.cells hneL
    have HCE := Lib.hid hcell2; have HJ10 := Lib.hid (HJc.out.below E10); have HT10 := Lib.hid (blkOn HTc.out E10); have HE10 := Lib.hid (below_then HEc.out E10)
    clear ho10 hob hg10 E10 hmem hneL hcell2
    go_wp2_with fail
    refine (build_all pg2 0 L.length cap4 (w.heap.size + 1 + 1) w.heap.size (w.heap.size + 1) L (plusAt ps qs) w10 rfl h1000 hpl2 (fun k x hx => HCE.out k x hx)
      (fun x hx W hW => plusAsk _ _ _ b o n c b' o' n' c' ps qs x W (HJ10.out.below hW) HN.out.1 h2 HN.out.2.1 HN.out.2.2.1 h2' HN.out.2.2.2 (HL.out.2.2.2 x hx).1 (HL.out.2.2.2 x hx).2)).mono ?_
    rintro e w11 ⟨v, rfl, ho11, hb11⟩
    obtain ⟨E, hE⟩ : ∃ E, buildErr (plusAt ps qs) L = E := ⟨_, rfl⟩
    obtain ⟨R, hR⟩ : ∃ R, okPts E (built (plusAt ps qs) L) = R := ⟨_, rfl⟩
    rw [hE, hR] at ho11
    have HEE := Lib.hid hE; have HRR := Lib.hid hR
    clear hE hR
    obtain ⟨sp, sn, sc, rfl⟩ := ho11.slice
    have hT := blkOn HT10.out hb11
    have r0 := hT.cell 0
    have f0 := hT.frozen 0
    have lT := hT.lt
    simp at r0
    have HO := Lib.hid ho11; have HE11 := Lib.hid (below_then HE10.out hb11)
    have HLe := Lib.hid (Nat.le_trans HE10.out.size (Nat.le_refl _))
    clear ho11 hb11 hT
    go_wp2
    have hB5 := HE11.out.setCell (p := ⟨w.heap.size + 1 + 1 + 1, 0, none⟩) (by show w.heap.size ≤ w.heap.size + 1 + 1 + 1; omega) (.slice sp sn sc)
    have lT10 : w.heap.size + 1 + 1 + 1 < w10.heap.size := HT10.out.lt
    refine bodyPost_ret (v := .tuple #[.agg #[.slice sp sn sc], .int .i64 (buildErr (plusAt ps qs) L)]) (by simp [results, Try.results115, go_sem, r0, lT]) rfl ⟨.slice sp sn sc, rfl, ?_, hB5⟩
    rw [HEE.out, HRR.out]
    refine World.ownsRow.kept (World.ownsRow.mono (show w11.ownsRow w10.heap.size 87 3 _ _ _ from HO.out) HLe.out) (grownBy_setCell' w11 _ _) (.inr ?_)
    intro e
    have := (World.ownsRow.lt (show w11.ownsRow w10.heap.size 87 3 _ _ _ from HO.out) _ e).1
    omega
end

section
open Go.RowKit

set_option maxRecDepth 100000 in
set_option maxHeartbeats 2000000 in
theorem plus_all (b o n c b' o' n' c' : Nat) (ps qs : List P3) (LO HI : Int) (L : List Int) (w : World)
    (hn : n = ps.length) (h2 : 1 ≤ n) (ht : tabOk ps = true) (hn' : n' = qs.length) (h2' : 1 ≤ n') (ht' : tabOk qs = true)
    (hb : b < w.heap.size) (hb' : b' < w.heap.size) (hc : PtsAt w b o ps) (hc' : PtsAt w b' o' qs)
    (hLO : max (firstX ps) (firstX qs) = LO) (hHI : min (lastX ps) (lastX qs) = HI) (hov : LO ≤ HI)
    (hL : L.Pairwise (· < ·)) (hm : ∀ x, x ∈ L ↔ x ∈ cornersS ps LO HI ++ cornersS qs LO HI) :
    Calls Try.prog 57 #[tv (some ⟨b, o, none⟩) n c, tv (some ⟨b', o', none⟩) n' c'] w (GivesTabE w (buildErr (plusAt ps qs) L) (built (plusAt ps qs) L)) := by
  have hE : Below w.heap.size w (((w.alloc (.cells #[.slice (some ⟨b, o, none⟩) n c] 43)).alloc (.cells #[.slice (some ⟨b', o', none⟩) n' c'] 43)).alloc (.cells #[.slice none 0 0] 43)) := below_a3 (Below.refl _ _)
  have hT := Blk.new ((w.alloc (.cells #[.slice (some ⟨b, o, none⟩) n c] 43)).alloc (.cells #[.slice (some ⟨b', o', none⟩) n' c'] 43)) 43 #[.slice none 0 0]
  simp only [World.size_alloc] at hT
  have hC : Hid (∀ W, Below w.heap.size w W → Calls Try.prog 115 #[tv (some ⟨b, o, none⟩) n c, tv (some ⟨b', o', none⟩) n' c', addFn] W (GivesTabE W (buildErr (plusAt ps qs) L) (built (plusAt ps qs) L))) :=
    Lib.hid fun W hW => combine_plusE b o n c b' o' n' c' ps qs LO HI L W hn h2 ht hn' h2' ht' (Nat.lt_of_lt_of_le hb hW.size) (Nat.lt_of_lt_of_le hb' hW.size) (hc.below hW hb) (hc'.below hW hb') hLO hHI hov hL hm
  have HT := Lib.hid hT; have HE := Lib.hid hE
  clear hn hn' ht ht' hc hc' hLO hHI hov hL hm hT hE
  go_enter Try.func57, Try.ntmps57
  go_wp2_with fail
  refine (hC.out _ HE.out).mono ?_
  rintro e w1 ⟨v, rfl, ho, hb1⟩
  obtain ⟨E, hE⟩ : ∃ E, buildErr (plusAt ps qs) L = E := ⟨_, rfl⟩
  obtain ⟨R, hR⟩ : ∃ R, okPts E (built (plusAt ps qs) L) = R := ⟨_, rfl⟩
  rw [hE, hR] at ho
  have HEE := Lib.hid hE; have HRR := Lib.hid hR
  clear hE hR
  obtain ⟨sp, sn, sc, rfl⟩ := ho.slice
  have hT1 := blkOn HT.out hb1
  have r0 := hT1.cell 0
  have f0 := hT1.frozen 0
  have lT := hT1.lt
  simp at r0
  have HO := Lib.hid ho; have HE1 := Lib.hid (below_then HE.out hb1)
  have HLe := Lib.hid HE.out.size
  have lT0 := HT.out.lt
  clear ho hb1 hT1
  go_wp2
  have hB5 := HE1.out.setCell (p := ⟨w.heap.size + 1 + 1, 0, none⟩) (by show w.heap.size ≤ w.heap.size + 1 + 1; omega) (.slice sp sn sc)
  refine bodyPost_ret (v := .tuple #[.agg #[.slice sp sn sc], .int .i64 (buildErr (plusAt ps qs) L)]) (by simp [results, Try.results57, go_sem, r0, lT]) rfl ⟨.slice sp sn sc, rfl, ?_, hB5⟩
  rw [HEE.out, HRR.out]
  refine World.ownsRow.kept (World.ownsRow.mono (show w1.ownsRow _ 87 3 _ _ _ from HO.out) HLe.out) (grownBy_setCell' w1 _ _) (.inr ?_)
  intro e
  have := (World.ownsRow.lt (show w1.ownsRow _ 87 3 _ _ _ from HO.out) _ e).1
  omega
end

section
open Go.RowKit

set_option maxRecDepth 100000 in
set_option maxHeartbeats 2000000 in
theorem combine_badT (A : Option Addr) (n c : Nat) (A' : Option Addr) (n' c' : Nat) (ps qs : List P3) (w : World)
    (hn : n = ps.length) (hm : n ≤ maxLen) (hn' : n' = qs.length) (hm' : n' ≤ maxLen) (hp : Pts w A ps) (hp' : Pts w A' qs) (h0 : ¬ (tabOk ps = true ∧ tabOk qs = true)) :
    Calls Try.prog 115 #[tv A n c, tv A' n' c', addFn] w (GivesTabE w 11 []) := by
  have hE : Below w.heap.size w ((((w.alloc (.cells #[.slice A n c] 43)).alloc (.cells #[.slice A' n' c'] 43)).alloc (.cells #[addFn] 28)).alloc (.cells #[.slice none 0 0] 43)) := below_a2 (below_a2 (Below.refl _ _))
  have hT := Blk.new (((w.alloc (.cells #[.slice A n c] 43)).alloc (.cells #[.slice A' n' c'] 43)).alloc (.cells #[addFn] 28)) 43 #[.slice none 0 0]
  have hU := ((Blk.new (w.alloc (.cells #[.slice A n c] 43)) 43 #[.slice A' n' c']).alloc (.cells #[addFn] 28)).alloc (.cells #[.slice none 0 0] 43)
  simp only [World.size_alloc] at hT hU
  have HP := Lib.hid (hp.below hE); have HP' := Lib.hid (hp'.below hE); have HE := Lib.hid hE; have HT := Lib.hid hT; have HU := Lib.hid hU
  have HN := Lib.hid (And.intro hn hn')
  clear hE hT hU hp hp' hn hn'
  cases ht : tabOk ps
  · have HX := Lib.hid ht; clear ht h0
    go_enter Try.func115, Try.ntmps115
    go_wp2_with fail
    obtain ⟨W0, hW0⟩ : ∃ W0, ((((w.alloc (.cells #[.slice A n c] 43)).alloc (.cells #[.slice A' n' c'] 43)).alloc (.cells #[addFn] 28)).alloc (.cells #[.slice none 0 0] 43)) = W0 := ⟨_, rfl⟩
    rw [hW0] at HP HP' HT HU HE ⊢
    clear hW0
    refine (checkTable_to A n c ps _ _ _ HN.out.1 hm HP.out HX.out rfl).mono ?_
    rintro e w1 ⟨rfl, hb1⟩
    have hT1 := blkOn HT.out hb1
    have HE1 := Lib.hid (below_then HE.out hb1)
    have r0 := hT1.cell 0
    have f0 := hT1.frozen 0
    have lT := hT1.lt
    simp at r0
    clear hb1 hT1
    go_wp2
    refine bodyPost_ret (v := .tuple #[.agg #[.slice none 0 0], .int .i64 11]) (by simp [results, Try.results115, go_sem, r0, lT]) rfl ⟨_, rfl, okPts_bad (by omega) _ _ _, ?_⟩
    first
      | exact HE1.out.setCell (p := ⟨w.heap.size + 1 + 1 + 1, 0, none⟩) (by show w.heap.size ≤ w.heap.size + 1 + 1 + 1; omega) _
      | exact (HE1.out.alloc HE1.out.size _).setCell (p := ⟨w.heap.size + 1 + 1 + 1, 0, none⟩) (by show w.heap.size ≤ w.heap.size + 1 + 1 + 1; omega) _
      | exact (HE1.out.setCell (p := ⟨w.heap.size + 1 + 1 + 1, 0, none⟩) (by show w.heap.size ≤ w.heap.size + 1 + 1 + 1; omega) _).alloc (by have := HE1.out.size; simp [World.setCell]; omega) _
  · have hu : tabOk qs = false := by
      cases h : tabOk qs
      · rfl
      · exact absurd ⟨ht, h⟩ h0
    have HX := Lib.hid ht; have HY := Lib.hid hu; clear ht hu h0
    go_enter Try.func115, Try.ntmps115
    go_wp2_with fail
    obtain ⟨W0, hW0⟩ : ∃ W0, ((((w.alloc (.cells #[.slice A n c] 43)).alloc (.cells #[.slice A' n' c'] 43)).alloc (.cells #[addFn] 28)).alloc (.cells #[.slice none 0 0] 43)) = W0 := ⟨_, rfl⟩
    rw [hW0] at HP HP' HT HU HE ⊢
    clear hW0
    refine (checkTable_to A n c ps _ _ _ HN.out.1 hm HP.out HX.out rfl).mono ?_
    rintro e w1 ⟨rfl, hb1⟩
    have hU1 := blkOn HU.out hb1
    have c1 := hU1.cell 0
    simp at c1
    have HT1 := Lib.hid (blkOn HT.out hb1); have HE1 := Lib.hid (below_then HE.out hb1); have HP1 := Lib.hid (HP'.out.below hb1)
    clear hb1 hU1
    go_wp2_with fail
    refine (checkTable_to A' n' c' qs _ _ _ HN.out.2 hm' HP1.out HY.out rfl).mono ?_
    rintro e w2 ⟨rfl, hb2⟩
    have hT1 := blkOn HT1.out hb2
    have HE2 := Lib.hid (below_then HE1.out hb2)
    have r0 := hT1.cell 0
    have f0 := hT1.frozen 0
    have lT := hT1.lt
    simp at r0
    clear hb2 hT1 c1
    go_wp2
    refine bodyPost_ret (v := .tuple #[.agg #[.slice none 0 0], .int .i64 11]) (by simp [results, Try.results115, go_sem, r0, lT]) rfl ⟨_, rfl, okPts_bad (by omega) _ _ _, ?_⟩
    first
      | exact HE2.out.setCell (p := ⟨w.heap.size + 1 + 1 + 1, 0, none⟩) (by show w.heap.size ≤ w.heap.size + 1 + 1 + 1; omega) _
      | exact (HE2.out.alloc HE2.out.size _).setCell (p := ⟨w.heap.size + 1 + 1 + 1, 0, none⟩) (by show w.heap.size ≤ w.heap.size + 1 + 1 + 1; omega) _
      | exact (HE2.out.setCell (p := ⟨w.heap.size + 1 + 1 + 1, 0, none⟩) (by show w.heap.size ≤ w.heap.size + 1 + 1 + 1; omega) _).alloc (by have := HE2.out.size; simp [World.setCell]; omega) _
end

section
open Go.RowKit

set_option maxRecDepth 100000 in
set_option maxHeartbeats 4000000 in
theorem combine_noPlace (b o n c b' o' n' c' : Nat) (ps qs : List P3) (LO HI : Int) (w : World)
    (hn : n = ps.length) (h2 : 1 ≤ n) (ht : tabOk ps = true) (hn' : n' = qs.length) (h2' : 1 ≤ n') (ht' : tabOk qs = true)
    (hb : b < w.heap.size) (hb' : b' < w.heap.size) (hc : PtsAt w b o ps) (hc' : PtsAt w b' o' qs)
    (hLO : max (firstX ps) (firstX qs) = LO) (hHI : min (lastX ps) (lastX qs) = HI) (hov : ¬ LO ≤ HI) :
    Calls Try.prog 115 #[tv (some ⟨b, o, none⟩) n c, tv (some ⟨b', o', none⟩) n' c', addFn] w (GivesTabE w 4 []) := by
  obtain ⟨i0, hi, hz0, hz1, hz2⟩ := info_parts Try.info3
  have hp40 := (tabOk_len ht).2
  have hq40 := (tabOk_len ht').2
  have hml : n ≤ maxLen := by unfold maxLen; omega
  have hml' : n' ≤ maxLen := by unfold maxLen; omega
  have hn40 : n ≤ 40 := by omega
  have hn40' : n' ≤ 40 := by omega
  have tle : HI < LO := by omega
  have HN := Lib.hid (And.intro hn (And.intro ht (And.intro hn' ht'))); clear hn ht hn' ht'
  have HD := Lib.hid (And.intro hLO hHI); clear hLO hHI hov
  have hJ : Joined ((((w.alloc (.cells #[.slice (some ⟨b, o, none⟩) n c] 43)).alloc (.cells #[.slice (some ⟨b', o', none⟩) n' c'] 43)).alloc (.cells #[addFn] 28)).alloc (.cells #[.slice none 0 0] 43)) (w.heap.size + 1 + 1) w.heap.size (w.heap.size + 1) b o n c b' o' n' c' ps qs := by
    have hE : Below w.heap.size w ((((w.alloc (.cells #[.slice (some ⟨b, o, none⟩) n c] 43)).alloc (.cells #[.slice (some ⟨b', o', none⟩) n' c'] 43)).alloc (.cells #[addFn] 28)).alloc (.cells #[.slice none 0 0] 43)) := below_a2 (below_a2 (Below.refl _ _))
    refine ⟨?_, ?_, ?_, hc.below hE hb, hc'.below hE hb', Nat.lt_of_lt_of_le hb hE.size, Nat.lt_of_lt_of_le hb' hE.size⟩
    · have h := (Blk.new ((w.alloc (.cells #[.slice (some ⟨b, o, none⟩) n c] 43)).alloc (.cells #[.slice (some ⟨b', o', none⟩) n' c'] 43)) 28 #[addFn]).alloc (.cells #[.slice none 0 0] 43)
      simpa only [World.size_alloc] using h
    · exact (((Blk.new w 43 #[.slice (some ⟨b, o, none⟩) n c]).alloc _).alloc _).alloc _
    · have h := ((Blk.new (w.alloc (.cells #[.slice (some ⟨b, o, none⟩) n c] 43)) 43 #[.slice (some ⟨b', o', none⟩) n' c']).alloc (.cells #[addFn] 28)).alloc (.cells #[.slice none 0 0] 43)
      simpa only [World.size_alloc] using h
  have hT := Blk.new (((w.alloc (.cells #[.slice (some ⟨b, o, none⟩) n c] 43)).alloc (.cells #[.slice (some ⟨b', o', none⟩) n' c'] 43)).alloc (.cells #[addFn] 28)) 43 #[.slice none 0 0]
  simp only [World.size_alloc] at hT
  have hE : Below w.heap.size w ((((w.alloc (.cells #[.slice (some ⟨b, o, none⟩) n c] 43)).alloc (.cells #[.slice (some ⟨b', o', none⟩) n' c'] 43)).alloc (.cells #[addFn] 28)).alloc (.cells #[.slice none 0 0] 43)) := below_a2 (below_a2 (Below.refl _ _))
  have HJ := Lib.hid hJ; have HT := Lib.hid hT; have HE := Lib.hid hE
  clear hJ hT hE hc hc'
  go_enter Try.func115, Try.ntmps115
  go_wp2_with fail
  obtain ⟨W0, hW0⟩ : ∃ W0, ((((w.alloc (.cells #[.slice (some ⟨b, o, none⟩) n c] 43)).alloc (.cells #[.slice (some ⟨b', o', none⟩) n' c'] 43)).alloc (.cells #[addFn] 28)).alloc (.cells #[.slice none 0 0] 43)) = W0 := ⟨_, rfl⟩
  rw [hW0] at HJ HT HE ⊢
  clear hW0
  refine (checkTable_to _ n c ps _ _ _ HN.out.1 hml (HJ.out.2.2.2.1.pts HJ.out.2.2.2.2.2.1) HN.out.2.1 rfl).mono ?_
  rintro e w1 ⟨rfl, hb1⟩
  have HJ1 := Lib.hid (HJ.out.below hb1); have HT1 := Lib.hid (blkOn HT.out hb1); have HE1 := Lib.hid (below_then HE.out hb1)
  clear hb1
  have c1 := HJ1.out.2.2.1.cell 0
  simp at c1
  go_wp2_with fail
  refine (checkTable_to _ n' c' qs _ _ _ HN.out.2.2.1 hml' (HJ1.out.2.2.2.2.1.pts HJ1.out.2.2.2.2.2.2) HN.out.2.2.2 rfl).mono ?_
  rintro e w2 ⟨rfl, hb2⟩
  have HJ2 := Lib.hid (HJ1.out.below hb2); have HT2 := Lib.hid (blkOn HT1.out hb2); have HE2 := Lib.hid (below_then HE1.out hb2)
  clear hb2 c1
  have l0 : w.heap.size < w2.heap.size := HJ2.out.2.1.lt
  have l1 : w.heap.size + 1 < w2.heap.size := HJ2.out.2.2.1.lt
  have c0 := HJ2.out.2.1.cell 0
  have c1 := HJ2.out.2.2.1.cell 0
  simp at c0 c1
  have HD1 : Hid (∀ W, Below w2.heap.size w2 W → Calls Try.prog 118 #[tv (some ⟨b, o, none⟩) n c] W fun e w' => e = .returned (rv (firstX ps) (lastX ps)) ∧ Below W.heap.size W w') :=
    Lib.hid fun W hW => domain_tab _ n c ps W HN.out.1 ((HJ2.out.below hW).2.2.2.1.pts (HJ2.out.below hW).2.2.2.2.2.1) HN.out.2.1
  have HD2 : Hid (∀ W, Below w2.heap.size w2 W → Calls Try.prog 118 #[tv (some ⟨b', o', none⟩) n' c'] W fun e w' => e = .returned (rv (firstX qs) (lastX qs)) ∧ Below W.heap.size W w') :=
    Lib.hid fun W hW => domain_tab _ n' c' qs W HN.out.2.2.1 ((HJ2.out.below hW).2.2.2.2.1.pts (HJ2.out.below hW).2.2.2.2.2.2) HN.out.2.2.2
  go_upto_region 3 with fail
  go_cut [8] (fun s8 wx => ∃ B, s8 = .pointer (some ⟨B, 0, none⟩) ∧ Blk wx B 23 #[.int .i64 LO, .int .i64 HI] ∧ w2.heap.size ≤ B ∧ Below w2.heap.size w2 wx)
  case first =>
    go_region_held3 (fun w' => w'.cell? ⟨w.heap.size, 0, none⟩ = some (.slice (some ⟨b, o, none⟩) n c) ∧ w'.cell? ⟨w.heap.size + 1, 0, none⟩ = some (.slice (some ⟨b', o', none⟩) n' c') ∧ Below w2.heap.size w2 w')
      (first | exact ⟨c0, c1, (Below.refl _ _).drew⟩ | exact keepC (by assumption) (by assumption) l0 l1 | exact keepCa (by assumption) l0 l1 | exact keepCs (by assumption) l0 l1 (by first | exact Nat.le_refl _ | assumption))
      (first
        | (go_at_call 118; (with_reducible refine (HD1.out _ (belowOf (by assumption))).mono ?_); rintro e w3 ⟨rfl, hb3⟩; have s3 := (below_then (belowOf (W2 := w2) (A := w.heap.size) (B := w.heap.size + 1) (by assumption)) hb3).size; (try have N1 : Blk w3 w2.heap.size 23 #[.int .i64 0, .int .i64 0] := blkNewD hb3))
        | (go_at_call 118; (with_reducible refine (HD2.out _ (belowOf (by assumption))).mono ?_); rintro e w4 ⟨rfl, hb4⟩; have s4 := (below_then (belowOf (W2 := w2) (A := w.heap.size) (B := w.heap.size + 1) (by assumption)) hb4).size; (first | with_reducible have N2 := blkNew hb4 | have N2 := blkOn N1 hb4 | skip))
        | (go_at_call 86; refine (common_to _ _ _ _ LO HI _ HD.out.1 HD.out.2).mono ?_; rintro e w5 ⟨rfl, hb5⟩; have T5 := keepC (W2 := w2) (A := w.heap.size) (B := w.heap.size + 1) hb5 (by assumption) l0 l1; (first | (with_reducible have N3 := blkNew hb5; have d0 := N3.cell 0; have d1 := N3.cell 1; have d2 := N3.frozen 0; have d3 := N3.frozen 1; simp at d0 d1) | (have N3 := blkOn N2 hb5; have d0 := N3.cell 0; have d1 := N3.cell 1; have d2 := N3.frozen 0; have d3 := N3.frozen 1; simp at d0 d1) | skip)))
    all_goals go_wp2_with fail
    all_goals go_meet
    all_goals (first
      | exact ⟨_, rfl, Blk.new _ _ _, T5.2.2.size, T5.2.2.alloc T5.2.2.size _⟩
      | exact ⟨_, rfl, blk2 N3 LO HI, s4, (T5.2.2.setCell (p := ⟨_, 0, none⟩) s4 _).setCell (p := ⟨_, 1, none⟩) s4 _⟩
      | exact ⟨_, rfl, blk2 N3 LO HI, s3, (T5.2.2.setCell (p := ⟨_, 0, none⟩) s3 _).setCell (p := ⟨_, 1, none⟩) s3 _⟩
      | exact ⟨_, rfl, blk2 N3 LO HI, Nat.le_refl _, (T5.2.2.setCell (p := ⟨_, 0, none⟩) (Nat.le_refl _) _).setCell (p := ⟨_, 1, none⟩) (Nat.le_refl _) _⟩)
  case rest =>
    obtain ⟨B, rfl, hBk, hB2, hbc⟩ := hcut
    have HJc := Lib.hid (HJ2.out.below hbc); have HTc := Lib.hid (blkOn HT2.out hbc); have HEc := Lib.hid (below_then HE2.out hbc)
    have z0 := hBk.cell 0
    have z1 := hBk.cell 1
    have lB := hBk.lt
    simp at z0 z1
    have HBk := Lib.hid hBk
    clear hBk hbc c0 c1 HD1 HD2
    have hT1 := HTc.out
    have r0 := hT1.cell 0
    have f0 := hT1.frozen 0
    have lT := hT1.lt
    simp at r0
    clear hT1
    go_wp2
    refine bodyPost_ret (v := .tuple #[.agg #[.slice none 0 0], .int .i64 4]) (by simp [results, Try.results115, go_sem, r0, lT]) rfl ⟨_, rfl, okPts_bad (by omega) _ _ _, ?_⟩
    first
      | exact HEc.out.setCell (p := ⟨w.heap.size + 1 + 1 + 1, 0, none⟩) (by show w.heap.size ≤ w.heap.size + 1 + 1 + 1; omega) _
      | exact (HEc.out.alloc HEc.out.size _).setCell (p := ⟨w.heap.size + 1 + 1 + 1, 0, none⟩) (by show w.heap.size ≤ w.heap.size + 1 + 1 + 1; omega) _
      | exact (HEc.out.setCell (p := ⟨w.heap.size + 1 + 1 + 1, 0, none⟩) (by show w.heap.size ≤ w.heap.size + 1 + 1 + 1; omega) _).alloc (by have := HEc.out.size; simp [World.setCell]; omega) _
end

section
open Go.RowKit

/-- the error of a table made of two, f telling the range at a place -/
def joinErr (f : Int → Int × Int × Int) (ps qs : List P3) : Int :=
  if tabOk ps = true ∧ tabOk qs = true then (if max (firstX ps) (firstX qs) ≤ min (lastX ps) (lastX qs) then buildErr f (placesOf ps qs) else 4) else 11
theorem givesTab_bad {w : World} {E : Int} {L L' : List P3} {e : Ending} {w' : World} (h : E ≠ 0) (g : GivesTabE w E L e w') : GivesTabE w E L' e w' := by
  obtain ⟨v, h1, h2, h3⟩ := g
  refine ⟨v, h1, ?_, h3⟩
  unfold okPts at h2 ⊢
  rw [if_neg h] at h2 ⊢
  exact h2

theorem combine_add (A : Option Addr) (n c : Nat) (A' : Option Addr) (n' c' : Nat) (ps qs : List P3) (w : World)
    (hn : n = ps.length) (hm : n ≤ maxLen) (hn' : n' = qs.length) (hm' : n' ≤ maxLen) (hp : Pts w A ps) (hp' : Pts w A' qs) :
    Calls Try.prog 115 #[tv A n c, tv A' n' c', addFn] w (GivesTabE w (joinErr (plusAt ps qs) ps qs) (built (plusAt ps qs) (placesOf ps qs))) := by
  unfold joinErr
  by_cases h : tabOk ps = true ∧ tabOk qs = true
  · rw [if_pos h]
    have h1 := (tabOk_len h.1).1
    have h2 := (tabOk_len h.2).1
    obtain ⟨b, o, rfl, hb, hc⟩ := hp.block h1
    obtain ⟨b', o', rfl, hb', hc'⟩ := hp'.block h2
    by_cases g : max (firstX ps) (firstX qs) ≤ min (lastX ps) (lastX qs)
    · rw [if_pos g]
      exact combine_plusE b o n c b' o' n' c' ps qs _ _ (placesOf ps qs) w hn (by omega) h.1 hn' (by omega) h.2 hb hb' hc hc' rfl rfl g (placesOf_rising ps qs) (places_corners h1 h2 g)
    · rw [if_neg g]
      exact (combine_noPlace b o n c b' o' n' c' ps qs _ _ w hn (by omega) h.1 hn' (by omega) h.2 hb hb' hc hc' rfl rfl g).mono fun e w' => givesTab_bad (by omega)
  · rw [if_neg h]
    exact (combine_badT A n c A' n' c' ps qs w hn hm hn' hm' hp hp' h).mono fun e w' => givesTab_bad (by omega)

set_option maxRecDepth 100000 in
set_option maxHeartbeats 2000000 in
theorem plus_any (A : Option Addr) (n c : Nat) (A' : Option Addr) (n' c' : Nat) (ps qs : List P3) (w : World)
    (hn : n = ps.length) (hm : n ≤ maxLen) (hn' : n' = qs.length) (hm' : n' ≤ maxLen) (hp : Pts w A ps) (hp' : Pts w A' qs) :
    Calls Try.prog 57 #[tv A n c, tv A' n' c'] w (GivesTabE w (joinErr (plusAt ps qs) ps qs) (built (plusAt ps qs) (placesOf ps qs))) := by
  have hE : Below w.heap.size w (((w.alloc (.cells #[.slice A n c] 43)).alloc (.cells #[.slice A' n' c'] 43)).alloc (.cells #[.slice none 0 0] 43)) := below_a3 (Below.refl _ _)
  have hT := Blk.new ((w.alloc (.cells #[.slice A n c] 43)).alloc (.cells #[.slice A' n' c'] 43)) 43 #[.slice none 0 0]
  simp only [World.size_alloc] at hT
  obtain ⟨E, hEE⟩ : ∃ E, joinErr (plusAt ps qs) ps qs = E := ⟨_, rfl⟩
  obtain ⟨R, hR⟩ : ∃ R, built (plusAt ps qs) (placesOf ps qs) = R := ⟨_, rfl⟩
  have hC : Hid (∀ W, Below w.heap.size w W → Calls Try.prog 115 #[tv A n c, tv A' n' c', addFn] W (GivesTabE W E R)) :=
    Lib.hid fun W hW => by rw [← hEE, ← hR]; exact combine_add A n c A' n' c' ps qs W hn hm hn' hm' (hp.below hW) (hp'.below hW)
  rw [hEE, hR]
  have HT := Lib.hid hT; have HE := Lib.hid hE
  clear hn hn' hp hp' hEE hR hT hE
  go_enter Try.func57, Try.ntmps57
  go_wp2_with fail
  refine (hC.out _ HE.out).mono ?_
  rintro e w1 ⟨v, rfl, ho, hb1⟩
  obtain ⟨sp, sn, sc, rfl⟩ := ho.slice
  have hT1 := blkOn HT.out hb1
  have r0 := hT1.cell 0
  have f0 := hT1.frozen 0
  have lT := hT1.lt
  simp at r0
  have HO := Lib.hid ho; have HE1 := Lib.hid (below_then HE.out hb1)
  have HLe := Lib.hid HE.out.size
  have lT0 := HT.out.lt
  clear ho hb1 hT1
  go_wp2
  have hB5 := HE1.out.setCell (p := ⟨w.heap.size + 1 + 1, 0, none⟩) (by show w.heap.size ≤ w.heap.size + 1 + 1; omega) (.slice sp sn sc)
  refine bodyPost_ret (v := .tuple #[.agg #[.slice sp sn sc], .int .i64 E]) (by simp [results, Try.results57, go_sem, r0, lT]) rfl ⟨_, rfl, ?_, hB5⟩
  refine World.ownsRow.kept (World.ownsRow.mono (show w1.ownsRow _ 87 3 _ _ _ from HO.out) HLe.out) (grownBy_setCell' w1 _ _) (.inr ?_)
  intro e
  have := (World.ownsRow.lt (show w1.ownsRow _ 87 3 _ _ _ from HO.out) _ e).1
  omega
end

section
open Go.RowKit

/-- What bounds either of two tables at a place. -/
def hullAt (ps qs : List P3) (x : Int) : Int × Int × Int := hullS (atS ps x).1 (atS ps x).2 (atS qs x).1 (atS qs x).2
@[reducible] def hullFn : Value := .func (.func 22) #[] #[]

/-- Two tables and what joins them, as the closure has them. -/
def JoinedH (w : World) (Bw Bt Bu b o n c b' o' n' c' : Nat) (ps qs : List P3) : Prop :=
  Blk w Bw 28 #[hullFn] ∧ Blk w Bt 43 #[.slice (some ⟨b, o, none⟩) n c] ∧ Blk w Bu 43 #[.slice (some ⟨b', o', none⟩) n' c'] ∧
  PtsAt w b o ps ∧ PtsAt w b' o' qs ∧ b < w.heap.size ∧ b' < w.heap.size
theorem JoinedH.below {w w' : World} {Bw Bt Bu b o n c b' o' n' c' : Nat} {ps qs : List P3} (h : JoinedH w Bw Bt Bu b o n c b' o' n' c' ps qs) (hB : Below w.heap.size w w') : JoinedH w' Bw Bt Bu b o n c b' o' n' c' ps qs := by
  obtain ⟨h1, h2, h3, h4, h5, h6, h7⟩ := h
  have := hB.size
  exact ⟨h1.below hB h1.lt, h2.below hB h2.lt, h3.below hB h3.lt, h4.below hB h6, h5.below hB h7, by omega, by omega⟩

set_option maxRecDepth 100000 in
set_option maxHeartbeats 6000000 in
theorem hullAsk (Bw Bt Bu b o n c b' o' n' c' : Nat) (ps qs : List P3) (x : Int) (w : World) (h : JoinedH w Bw Bt Bu b o n c b' o' n' c' ps qs)
    (hn : n = ps.length) (h2 : 1 ≤ n) (ht : tabOk ps = true) (hn' : n' = qs.length) (h2' : 1 ≤ n') (ht' : tabOk qs = true) (hx : 0 ≤ x) (hx' : x ≤ 1000000) :
    Calls Try.prog 136 #[.int .i64 x, .pointer (some ⟨Bw, 0, none⟩), .pointer (some ⟨Bt, 0, none⟩), .pointer (some ⟨Bu, 0, none⟩)] w fun e w' => e = .returned (rt (hullAt ps qs x)) ∧ Below w.heap.size w w' := by
  obtain ⟨⟨ra, rb⟩, hr⟩ : ∃ r, atS ps x = r := ⟨_, rfl⟩
  obtain ⟨⟨sa, sb⟩, hs⟩ : ∃ r, atS qs x = r := ⟨_, rfl⟩
  have hv : hullAt ps qs x = hullS ra rb sa sb := by unfold hullAt; rw [hr, hs]
  have HR := Lib.hid hr; have HS := Lib.hid hs; have HV := Lib.hid hv
  clear hr hs hv
  have n0 : Bw ≠ w.heap.size := by have := h.1.lt; omega
  have n1 : Bt ≠ w.heap.size := by have := h.2.1.lt; omega
  have n2 : Bu ≠ w.heap.size := by have := h.2.2.1.lt; omega
  have m0 := n0.symm
  have m1 := n1.symm
  have m2 := n2.symm
  have bR := Blk.new w 23 #[.int .i64 0, .int .i64 0]
  have hE : Below w.heap.size w (w.alloc (.cells #[.int .i64 0, .int .i64 0] 23)) := (Below.refl _ _).alloc (Nat.le_refl _) _
  have HJ := Lib.hid (h.below hE); have HE := Lib.hid hE; have HBR := Lib.hid bR; clear h hE bR
  have HN := Lib.hid (And.intro hn (And.intro ht (And.intro hn' ht'))); clear hn ht hn' ht'
  go_enter Try.func136, Try.ntmps136
  go_wp2_with fail
  obtain ⟨W1, hW1⟩ : ∃ W1, w.alloc (.cells #[.int .i64 0, .int .i64 0] 23) = W1 := ⟨_, rfl⟩
  rw [hW1] at HJ HE HBR ⊢
  clear hW1
  have z0 := HJ.out.1.cell 0
  have z1 := HJ.out.2.1.cell 0
  have z2 := HJ.out.2.2.1.cell 0
  simp at z0 z1 z2
  have l0 : Bw < W1.drew.heap.size := HJ.out.1.lt
  have l1 : Bt < W1.drew.heap.size := HJ.out.2.1.lt
  have l2 : Bu < W1.drew.heap.size := HJ.out.2.2.1.lt
  have lR : w.heap.size < W1.drew.heap.size := HBR.out.lt
  have f0 := HBR.out.drew.frozen 0
  have f1 := HBR.out.drew.frozen 1
  have HD := Lib.hid (HJ.out.below (below_d (Below.refl _ W1.drew)))
  have c0 : W1.drew.cell? ⟨w.heap.size, 0, none⟩ = some (.int .i64 0) := HBR.out.drew.cell 0
  have c1 : W1.drew.cell? ⟨w.heap.size, 1, none⟩ = some (.int .i64 0) := HBR.out.drew.cell 1
  have HC0 := Lib.hid c0; have HC1 := Lib.hid c1; clear c0 c1
  have C1 := Lib.hid (at_to b o n c ps x ra rb W1.drew HN.out.1 h2 HD.out.2.2.2.2.2.1 HN.out.2.1 hx hx' HD.out.2.2.2.1 HR.out)
  go_region_held3 (fun w' => w'.cell? ⟨Bw, 0, none⟩ = some hullFn ∧ w'.cell? ⟨Bt, 0, none⟩ = some (.slice (some ⟨b, o, none⟩) n c) ∧ w'.cell? ⟨Bu, 0, none⟩ = some (.slice (some ⟨b', o', none⟩) n' c'))
    (first | (go_keep; done) | (clear HD HJ HE HBR HN HR HS HV; first | exact keepJ hb3 (by assumption) (Nat.lt_of_lt_of_le l0 (Nat.le_trans hb1.size hb2.size)) (Nat.lt_of_lt_of_le l1 (Nat.le_trans hb1.size hb2.size)) (Nat.lt_of_lt_of_le l2 (Nat.le_trans hb1.size hb2.size)) | exact keepJ hb2 (by assumption) (Nat.lt_of_lt_of_le l0 hb1.size) (Nat.lt_of_lt_of_le l1 hb1.size) (Nat.lt_of_lt_of_le l2 hb1.size) | exact keepJ hb1 (by assumption) l0 l1 l2))
    (first
      | (go_at_call 91; with_reducible refine (C1.out).mono ?_; rintro e w1 ⟨rfl, hb1⟩)
      | (go_at_call 91; have C2 := (at_to b' o' n' c' qs x sa sb w1 HN.out.2.2.1 h2' (Nat.lt_of_lt_of_le HD.out.2.2.2.2.2.2 hb1.size) HN.out.2.2.2 hx hx' (HD.out.2.2.2.2.1.below hb1 HD.out.2.2.2.2.2.2) HS.out); with_reducible refine C2.mono ?_; rintro e w2 ⟨rfl, hb2⟩)
      | (go_at_call 22; have C3 := hull_any ra rb sa sb w2; with_reducible refine C3.mono ?_; rintro e w3 ⟨rfl, hb3⟩; have lR1 := Nat.lt_of_lt_of_le lR hb1.size; have lR2 := Nat.lt_of_lt_of_le lR1 hb2.size; have F0 : w3.frozen? ⟨w.heap.size, 0, none⟩ = false := ((bcell hb3).2 w.heap.size 0 lR2).trans (((bcell hb2).2 w.heap.size 0 lR1).trans (((bcell hb1).2 w.heap.size 0 lR).trans f0)); have F1 : w3.frozen? ⟨w.heap.size, 1, none⟩ = false := ((bcell hb3).2 w.heap.size 1 lR2).trans (((bcell hb2).2 w.heap.size 1 lR1).trans (((bcell hb1).2 w.heap.size 1 lR).trans f1)); have lR3 := Nat.lt_of_lt_of_le lR2 hb3.size; have D0 : w3.cell? ⟨w.heap.size, 0, none⟩ = some (.int .i64 0) := ((bcell hb3).1 w.heap.size 0 lR2).trans (((bcell hb2).1 w.heap.size 0 lR1).trans (((bcell hb1).1 w.heap.size 0 lR).trans HC0.out)); have D1 : w3.cell? ⟨w.heap.size, 1, none⟩ = some (.int .i64 0) := ((bcell hb3).1 w.heap.size 1 lR2).trans (((bcell hb2).1 w.heap.size 1 lR1).trans (((bcell hb1).1 w.heap.size 1 lR).trans HC1.out))))
  all_goals
    go_wp2
    refine bodyPost_ret (v := rt (hullS ra rb sa sb)) (by simp [results, Try.results136, go_sem, D0, D1]) rfl ⟨by rw [HV.out], ?_⟩
    have hB3 := below_then (below_then (below_then HE.out (below_d hb1)) hb2) hb3
    exact ((hB3.setCell (p := ⟨w.heap.size, 0, none⟩) (by simp) _).setCell (p := ⟨w.heap.size, 1, none⟩) (by simp) _)
end

section
open Go.RowKit

set_option maxRecDepth 100000 in
set_option maxHeartbeats 4000000 in
theorem combine_hullE (b o n c b' o' n' c' : Nat) (ps qs : List P3) (LO HI : Int) (L : List Int) (w : World)
    (hn : n = ps.length) (h2 : 1 ≤ n) (ht : tabOk ps = true) (hn' : n' = qs.length) (h2' : 1 ≤ n') (ht' : tabOk qs = true)
    (hb : b < w.heap.size) (hb' : b' < w.heap.size) (hc : PtsAt w b o ps) (hc' : PtsAt w b' o' qs)
    (hLO : max (firstX ps) (firstX qs) = LO) (hHI : min (lastX ps) (lastX qs) = HI) (hov : LO ≤ HI)
    (hL : L.Pairwise (· < ·)) (hm : ∀ x, x ∈ L ↔ x ∈ cornersS ps LO HI ++ cornersS qs LO HI) :
    Calls Try.prog 115 #[tv (some ⟨b, o, none⟩) n c, tv (some ⟨b', o', none⟩) n' c', hullFn] w (GivesTabE w (buildErr (hullAt ps qs) L) (built (hullAt ps qs) L)) := by
  obtain ⟨i0, hi, hz0, hz1, hz2⟩ := info_parts Try.info3
  have hp40 := (tabOk_len ht).2
  have hq40 := (tabOk_len ht').2
  have hml : n ≤ maxLen := by unfold maxLen; omega
  have hml' : n' ≤ maxLen := by unfold maxLen; omega
  have hn40 : n ≤ 40 := by omega
  have hn40' : n' ≤ 40 := by omega
  obtain ⟨pl1, pl2⟩ := places_in ht
  obtain ⟨ql1, ql2⟩ := places_in ht'
  have hLx : ∀ x ∈ L, 0 ≤ x ∧ x ≤ 1000000 := fun x hx => by
    rcases List.mem_append.1 ((hm x).1 hx) with h | h <;> rcases corners_mem h with h | h <;> omega
  have hlen1 := corners_len ps LO HI hp40
  have hlen2 := corners_len qs LO HI hq40
  have tle : ¬ HI < LO := by omega
  have HN := Lib.hid (And.intro hn (And.intro ht (And.intro hn' ht'))); clear hn ht hn' ht'
  have HL := Lib.hid (And.intro hL (And.intro hm (And.intro trivial hLx))); clear hL hm hLx
  have HD := Lib.hid (And.intro hLO hHI); clear hLO hHI pl1 pl2 ql1 ql2 hov
  have hJ : JoinedH ((((w.alloc (.cells #[.slice (some ⟨b, o, none⟩) n c] 43)).alloc (.cells #[.slice (some ⟨b', o', none⟩) n' c'] 43)).alloc (.cells #[hullFn] 28)).alloc (.cells #[.slice none 0 0] 43)) (w.heap.size + 1 + 1) w.heap.size (w.heap.size + 1) b o n c b' o' n' c' ps qs := by
    have hE : Below w.heap.size w ((((w.alloc (.cells #[.slice (some ⟨b, o, none⟩) n c] 43)).alloc (.cells #[.slice (some ⟨b', o', none⟩) n' c'] 43)).alloc (.cells #[hullFn] 28)).alloc (.cells #[.slice none 0 0] 43)) := below_a2 (below_a2 (Below.refl _ _))
    refine ⟨?_, ?_, ?_, hc.below hE hb, hc'.below hE hb', Nat.lt_of_lt_of_le hb hE.size, Nat.lt_of_lt_of_le hb' hE.size⟩
    · have h := (Blk.new ((w.alloc (.cells #[.slice (some ⟨b, o, none⟩) n c] 43)).alloc (.cells #[.slice (some ⟨b', o', none⟩) n' c'] 43)) 28 #[hullFn]).alloc (.cells #[.slice none 0 0] 43)
      simpa only [World.size_alloc] using h
    · exact (((Blk.new w 43 #[.slice (some ⟨b, o, none⟩) n c]).alloc _).alloc _).alloc _
    · have h := ((Blk.new (w.alloc (.cells #[.slice (some ⟨b, o, none⟩) n c] 43)) 43 #[.slice (some ⟨b', o', none⟩) n' c']).alloc (.cells #[hullFn] 28)).alloc (.cells #[.slice none 0 0] 43)
      simpa only [World.size_alloc] using h
  have hT := Blk.new (((w.alloc (.cells #[.slice (some ⟨b, o, none⟩) n c] 43)).alloc (.cells #[.slice (some ⟨b', o', none⟩) n' c'] 43)).alloc (.cells #[hullFn] 28)) 43 #[.slice none 0 0]
  simp only [World.size_alloc] at hT
  have hE : Below w.heap.size w ((((w.alloc (.cells #[.slice (some ⟨b, o, none⟩) n c] 43)).alloc (.cells #[.slice (some ⟨b', o', none⟩) n' c'] 43)).alloc (.cells #[hullFn] 28)).alloc (.cells #[.slice none 0 0] 43)) := below_a2 (below_a2 (Below.refl _ _))
  have HJ := Lib.hid hJ; have HT := Lib.hid hT; have HE := Lib.hid hE
  clear hJ hT hE hc hc'
  go_enter Try.func115, Try.ntmps115
  go_wp2_with fail
  obtain ⟨W0, hW0⟩ : ∃ W0, ((((w.alloc (.cells #[.slice (some ⟨b, o, none⟩) n c] 43)).alloc (.cells #[.slice (some ⟨b', o', none⟩) n' c'] 43)).alloc (.cells #[hullFn] 28)).alloc (.cells #[.slice none 0 0] 43)) = W0 := ⟨_, rfl⟩
  rw [hW0] at HJ HT HE ⊢
  clear hW0
  refine (checkTable_to _ n c ps _ _ _ HN.out.1 hml (HJ.out.2.2.2.1.pts HJ.out.2.2.2.2.2.1) HN.out.2.1 rfl).mono ?_
  rintro e w1 ⟨rfl, hb1⟩
  have HJ1 := Lib.hid (HJ.out.below hb1); have HT1 := Lib.hid (blkOn HT.out hb1); have HE1 := Lib.hid (below_then HE.out hb1)
  clear hb1
  have c1 := HJ1.out.2.2.1.cell 0
  simp at c1
  go_wp2_with fail
  refine (checkTable_to _ n' c' qs _ _ _ HN.out.2.2.1 hml' (HJ1.out.2.2.2.2.1.pts HJ1.out.2.2.2.2.2.2) HN.out.2.2.2 rfl).mono ?_
  rintro e w2 ⟨rfl, hb2⟩
  have HJ2 := Lib.hid (HJ1.out.below hb2); have HT2 := Lib.hid (blkOn HT1.out hb2); have HE2 := Lib.hid (below_then HE1.out hb2)
  clear hb2 c1
  have l0 : w.heap.size < w2.heap.size := HJ2.out.2.1.lt
  have l1 : w.heap.size + 1 < w2.heap.size := HJ2.out.2.2.1.lt
  have c0 := HJ2.out.2.1.cell 0
  have c1 := HJ2.out.2.2.1.cell 0
  simp at c0 c1
  have HD1 : Hid (∀ W, Below w2.heap.size w2 W → Calls Try.prog 118 #[tv (some ⟨b, o, none⟩) n c] W fun e w' => e = .returned (rv (firstX ps) (lastX ps)) ∧ Below W.heap.size W w') :=
    Lib.hid fun W hW => domain_tab _ n c ps W HN.out.1 ((HJ2.out.below hW).2.2.2.1.pts (HJ2.out.below hW).2.2.2.2.2.1) HN.out.2.1
  have HD2 : Hid (∀ W, Below w2.heap.size w2 W → Calls Try.prog 118 #[tv (some ⟨b', o', none⟩) n' c'] W fun e w' => e = .returned (rv (firstX qs) (lastX qs)) ∧ Below W.heap.size W w') :=
    Lib.hid fun W hW => domain_tab _ n' c' qs W HN.out.2.2.1 ((HJ2.out.below hW).2.2.2.2.1.pts (HJ2.out.below hW).2.2.2.2.2.2) HN.out.2.2.2
  go_upto_region 3 with fail
  go_cut [8] (fun s8 wx => ∃ B, s8 = .pointer (some ⟨B, 0, none⟩) ∧ Blk wx B 23 #[.int .i64 LO, .int .i64 HI] ∧ w2.heap.size ≤ B ∧ Below w2.heap.size w2 wx)
  case first =>
    go_region_held3 (fun w' => w'.cell? ⟨w.heap.size, 0, none⟩ = some (.slice (some ⟨b, o, none⟩) n c) ∧ w'.cell? ⟨w.heap.size + 1, 0, none⟩ = some (.slice (some ⟨b', o', none⟩) n' c') ∧ Below w2.heap.size w2 w')
      (first | exact ⟨c0, c1, (Below.refl _ _).drew⟩ | exact keepC (by assumption) (by assumption) l0 l1 | exact keepCa (by assumption) l0 l1 | exact keepCs (by assumption) l0 l1 (by first | exact Nat.le_refl _ | assumption))
      (first
        | (go_at_call 118; (with_reducible refine (HD1.out _ (belowOf (by assumption))).mono ?_); rintro e w3 ⟨rfl, hb3⟩; have s3 := (below_then (belowOf (W2 := w2) (A := w.heap.size) (B := w.heap.size + 1) (by assumption)) hb3).size; (try have N1 : Blk w3 w2.heap.size 23 #[.int .i64 0, .int .i64 0] := blkNewD hb3))
        | (go_at_call 118; (with_reducible refine (HD2.out _ (belowOf (by assumption))).mono ?_); rintro e w4 ⟨rfl, hb4⟩; have s4 := (below_then (belowOf (W2 := w2) (A := w.heap.size) (B := w.heap.size + 1) (by assumption)) hb4).size; (first | with_reducible have N2 := blkNew hb4 | have N2 := blkOn N1 hb4 | skip))
        | (go_at_call 86; refine (common_to _ _ _ _ LO HI _ HD.out.1 HD.out.2).mono ?_; rintro e w5 ⟨rfl, hb5⟩; have T5 := keepC (W2 := w2) (A := w.heap.size) (B := w.heap.size + 1) hb5 (by assumption) l0 l1; (first | (with_reducible have N3 := blkNew hb5; have d0 := N3.cell 0; have d1 := N3.cell 1; have d2 := N3.frozen 0; have d3 := N3.frozen 1; simp at d0 d1) | (have N3 := blkOn N2 hb5; have d0 := N3.cell 0; have d1 := N3.cell 1; have d2 := N3.frozen 0; have d3 := N3.frozen 1; simp at d0 d1) | skip)))
    all_goals go_wp2_with fail
    all_goals go_meet
    all_goals (first
      | exact ⟨_, rfl, Blk.new _ _ _, T5.2.2.size, T5.2.2.alloc T5.2.2.size _⟩
      | exact ⟨_, rfl, blk2 N3 LO HI, s4, (T5.2.2.setCell (p := ⟨_, 0, none⟩) s4 _).setCell (p := ⟨_, 1, none⟩) s4 _⟩
      | exact ⟨_, rfl, blk2 N3 LO HI, s3, (T5.2.2.setCell (p := ⟨_, 0, none⟩) s3 _).setCell (p := ⟨_, 1, none⟩) s3 _⟩
      | exact ⟨_, rfl, blk2 N3 LO HI, Nat.le_refl _, (T5.2.2.setCell (p := ⟨_, 0, none⟩) (Nat.le_refl _) _).setCell (p := ⟨_, 1, none⟩) (Nat.le_refl _) _⟩)
  case rest =>
    obtain ⟨B, rfl, hBk, hB2, hbc⟩ := hcut
    have HJc := Lib.hid (HJ2.out.below hbc); have HTc := Lib.hid (blkOn HT2.out hbc); have HEc := Lib.hid (below_then HE2.out hbc)
    have z0 := hBk.cell 0
    have z1 := hBk.cell 1
    have lB := hBk.lt
    simp at z0 z1
    have HBk := Lib.hid hBk
    clear hBk hbc c0 c1 HD1 HD2
    obtain ⟨L1, hL1⟩ : ∃ L1, cornersS ps LO HI = L1 := ⟨_, rfl⟩
    obtain ⟨L2, hL2⟩ : ∃ L2, cornersS qs LO HI = L2 := ⟨_, rfl⟩
    have hne1 := corners_ne ps LO HI
    have hne2 := corners_ne qs LO HI
    rw [hL1] at hlen1 hne1
    rw [hL2] at hlen2 hne2
    have hpos2 : 0 < L2.length := List.length_pos_iff.2 hne2
    have K1 : Hid (∀ W, Below wc.heap.size wc W → Calls Try.prog 95 #[tv (some ⟨b, o, none⟩) n c, .int .i64 LO, .int .i64 HI] W (GivesInts W L1)) :=
      Lib.hid fun W hW => by
        rw [← hL1]
        exact corners_any b o n c ps LO HI W HN.out.1 (by omega) hn40 (HJc.out.below hW).2.2.2.2.2.1 (HJc.out.below hW).2.2.2.1
    have K2 : Hid (∀ W, Below wc.heap.size wc W → Calls Try.prog 95 #[tv (some ⟨b', o', none⟩) n' c', .int .i64 LO, .int .i64 HI] W (GivesInts W L2)) :=
      Lib.hid fun W hW => by
        rw [← hL2]
        exact corners_any b' o' n' c' qs LO HI W HN.out.2.2.1 (by omega) hn40' (HJc.out.below hW).2.2.2.2.2.2 (HJc.out.below hW).2.2.2.2.1
    have HC := Lib.hid (And.intro hL1 (And.intro hL2 (And.intro hne1 hne2))); clear hL1 hL2 hne1 hne2
    have l0 : w.heap.size < wc.heap.size := HJc.out.2.1.lt
    have l1 : w.heap.size + 1 < wc.heap.size := HJc.out.2.2.1.lt
    have c0 := HJc.out.2.1.cell 0
    have c1 := HJc.out.2.2.1.cell 0
    simp at c0 c1
    go_wp2_with fail
    go_region_held3 (fun w' => w'.cell? ⟨w.heap.size, 0, none⟩ = some (.slice (some ⟨b, o, none⟩) n c) ∧ w'.cell? ⟨w.heap.size + 1, 0, none⟩ = some (.slice (some ⟨b', o', none⟩) n' c') ∧ w'.cell? ⟨B, 0, none⟩ = some (.int .i64 LO) ∧ w'.cell? ⟨B, 1, none⟩ = some (.int .i64 HI) ∧ Below wc.heap.size wc w')
      (first | assumption | exact mkE (Below.refl _ _).drew ⟨c0, c1, z0, z1⟩ l0 l1 lB | exact mkE (below_then (belowE (by assumption)) (by assumption)) ⟨c0, c1, z0, z1⟩ l0 l1 lB | exact mkE E8 ⟨c0, c1, z0, z1⟩ l0 l1 lB)
      (first
        | (go_at_call 95; (with_reducible refine (K1.out _ (belowE (by assumption))).mono ?_); rintro e w6 ⟨v1, rfl, ho1, hb6⟩; have E6 := below_then (belowE (W2 := wc) (A := w.heap.size) (B := w.heap.size + 1) (C := B) (by assumption)) hb6)
        | (go_at_call 95; (with_reducible refine (K2.out _ (belowE (by assumption))).mono ?_); rintro e w7 ⟨v2, rfl, ho2, hb7⟩; have E7 := below_then E6 hb7; obtain ⟨pg, cap2, rfl, hpg, hpl, hcell⟩ := OwnInts.cells ho2 HC.out.2.2.2; have HO1 := Lib.hid (World.ownsRow.mono (ho1.below hb7) (show wc.heap.size ≤ _ from Nat.le_refl _)); have HN2 := Lib.hid (newsInts hcell); have HB7 := Lib.hid E7; clear ho2 hcell ho1)
        | (refine step_append_lies _ (by rfl) _ _ _ (by rfl) wc.heap.size 3 i0 _ 1 8 Try.underlying44 hi hz0 hz1 hz2 rfl (by omega) v1 (ints L1).length (ints L1) (by rfl) (by exact HO1.out) ⟨pg, 0, none⟩ L2.length cap2 (ints L2) (by rfl) (by simp) HN2.out (ints_one L2) (by omega) (by simp [maxLen]; omega) (by simp; omega) HB7.out.size _ rfl ?_; intro gg cap3 w8 hown8 hgrow hat hlt; have E8 : Below wc.heap.size wc w8 := HB7.out.grown hgrow HB7.out.size (fun k hk => (World.ownsRow.lt HO1.out k hk).1))
        | fail)
    have HO8 : Hid (OwnInts wc.heap.size w8 (.slice (some ⟨gg, 0, none⟩) (L1.length + L2.length) cap3) (L1 ++ L2)) := Lib.hid (by unfold OwnInts; simpa using hown8)
    have HE8 := Lib.hid E8
    clear hown8 hgrow hat hlt E8 E6 E7 HO1 HN2 HB7 hb6 hb7 K1 K2 z0 z1 c0 c1
    have hne : L1 ++ L2 ≠ [] := by simp [HC.out.2.2.1]
    have HNE := Lib.hid hne; clear hne
    go_wp2_with fail
    refine (sort_own wc.heap.size _ (L1 ++ L2) w8 HO8.out HNE.out (by simp; omega)).mono ?_
    rintro e w9 ⟨rfl, ho9, hg9⟩
    have E9 := HE8.out.grown hg9 HE8.out.size (fun k hk => (World.ownsRow.lt HO8.out k hk).1)
    have HO9 := Lib.hid ho9; have HE9 := Lib.hid E9
    clear ho9 hg9 E9
    go_wp2_with fail
    refine (compact_own wc.heap.size _ _ w9 HO9.out (fun h => HNE.out (by have h1 := congrArg List.length h; rw [List.length_mergeSort] at h1; exact List.eq_nil_of_length_eq_zero h1))).mono ?_
    rintro e w10 ⟨v', rfl, ho10, hob, hg10⟩
    have E10 := HE9.out.grown hg10 HE9.out.size (fun k hk => (World.ownsRow.lt HO9.out k hk).1)
    have hmem : ∀ x, x ∈ L ↔ x ∈ L1 ++ L2 := by rw [← HC.out.1, ← HC.out.2.1]; exact HL.out.2.1
    rw [compact_sorted (L1 ++ L2) L HL.out.1 hmem] at ho10
    have h1000 : L.length ≤ 1000 := by
      have h1 := compact_len_le ((L1 ++ L2).mergeSort fun x y => decide (x ≤ y))
      rw [compact_sorted (L1 ++ L2) L HL.out.1 hmem, List.length_mergeSort, List.length_append] at h1
      omega
    have hneL : L ≠ [] := by
      intro h
      obtain ⟨x, hx⟩ := List.exists_mem_of_ne_nil _ HNE.out
      have := (hmem x).2 hx
      rw [h] at this; cases this
    obtain ⟨pg2, cap4, rfl, hpg2, hpl2, hcell2⟩ := ho10.cells hneL
    have HCE := Lib.hid hcell2; have HJ10 := Lib.hid (HJc.out.below E10); have HT10 := Lib.hid (blkOn HTc.out E10); have HE10 := Lib.hid (below_then HEc.out E10)
    clear ho10 hob hg10 E10 hmem hneL hcell2
    go_wp2_with fail
    refine (build_all pg2 0 L.length cap4 (w.heap.size + 1 + 1) w.heap.size (w.heap.size + 1) L (hullAt ps qs) w10 rfl h1000 hpl2 (fun k x hx => HCE.out k x hx)
      (fun x hx W hW => hullAsk _ _ _ b o n c b' o' n' c' ps qs x W (HJ10.out.below hW) HN.out.1 h2 HN.out.2.1 HN.out.2.2.1 h2' HN.out.2.2.2 (HL.out.2.2.2 x hx).1 (HL.out.2.2.2 x hx).2)).mono ?_
    rintro e w11 ⟨v, rfl, ho11, hb11⟩
    obtain ⟨E, hE⟩ : ∃ E, buildErr (hullAt ps qs) L = E := ⟨_, rfl⟩
    obtain ⟨R, hR⟩ : ∃ R, okPts E (built (hullAt ps qs) L) = R := ⟨_, rfl⟩
    rw [hE, hR] at ho11
    have HEE := Lib.hid hE; have HRR := Lib.hid hR
    clear hE hR
    obtain ⟨sp, sn, sc, rfl⟩ := ho11.slice
    have hT := blkOn HT10.out hb11
    have r0 := hT.cell 0
    have f0 := hT.frozen 0
    have lT := hT.lt
    simp at r0
    have HO := Lib.hid ho11; have HE11 := Lib.hid (below_then HE10.out hb11)
    have HLe := Lib.hid (Nat.le_trans HE10.out.size (Nat.le_refl _))
    clear ho11 hb11 hT
    go_wp2
    have hB5 := HE11.out.setCell (p := ⟨w.heap.size + 1 + 1 + 1, 0, none⟩) (by show w.heap.size ≤ w.heap.size + 1 + 1 + 1; omega) (.slice sp sn sc)
    have lT10 : w.heap.size + 1 + 1 + 1 < w10.heap.size := HT10.out.lt
    refine bodyPost_ret (v := .tuple #[.agg #[.slice sp sn sc], .int .i64 (buildErr (hullAt ps qs) L)]) (by simp [results, Try.results115, go_sem, r0, lT]) rfl ⟨.slice sp sn sc, rfl, ?_, hB5⟩
    rw [HEE.out, HRR.out]
    refine World.ownsRow.kept (World.ownsRow.mono (show w11.ownsRow w10.heap.size 87 3 _ _ _ from HO.out) HLe.out) (grownBy_setCell' w11 _ _) (.inr ?_)
    intro e
    have := (World.ownsRow.lt (show w11.ownsRow w10.heap.size 87 3 _ _ _ from HO.out) _ e).1
    omega
set_option maxRecDepth 100000 in
set_option maxHeartbeats 2000000 in
theorem combine_badTH (A : Option Addr) (n c : Nat) (A' : Option Addr) (n' c' : Nat) (ps qs : List P3) (w : World)
    (hn : n = ps.length) (hm : n ≤ maxLen) (hn' : n' = qs.length) (hm' : n' ≤ maxLen) (hp : Pts w A ps) (hp' : Pts w A' qs) (h0 : ¬ (tabOk ps = true ∧ tabOk qs = true)) :
    Calls Try.prog 115 #[tv A n c, tv A' n' c', hullFn] w (GivesTabE w 11 []) := by
  have hE : Below w.heap.size w ((((w.alloc (.cells #[.slice A n c] 43)).alloc (.cells #[.slice A' n' c'] 43)).alloc (.cells #[hullFn] 28)).alloc (.cells #[.slice none 0 0] 43)) := below_a2 (below_a2 (Below.refl _ _))
  have hT := Blk.new (((w.alloc (.cells #[.slice A n c] 43)).alloc (.cells #[.slice A' n' c'] 43)).alloc (.cells #[hullFn] 28)) 43 #[.slice none 0 0]
  have hU := ((Blk.new (w.alloc (.cells #[.slice A n c] 43)) 43 #[.slice A' n' c']).alloc (.cells #[hullFn] 28)).alloc (.cells #[.slice none 0 0] 43)
  simp only [World.size_alloc] at hT hU
  have HP := Lib.hid (hp.below hE); have HP' := Lib.hid (hp'.below hE); have HE := Lib.hid hE; have HT := Lib.hid hT; have HU := Lib.hid hU
  have HN := Lib.hid (And.intro hn hn')
  clear hE hT hU hp hp' hn hn'
  cases ht : tabOk ps
  · have HX := Lib.hid ht; clear ht h0
    go_enter Try.func115, Try.ntmps115
    go_wp2_with fail
    obtain ⟨W0, hW0⟩ : ∃ W0, ((((w.alloc (.cells #[.slice A n c] 43)).alloc (.cells #[.slice A' n' c'] 43)).alloc (.cells #[hullFn] 28)).alloc (.cells #[.slice none 0 0] 43)) = W0 := ⟨_, rfl⟩
    rw [hW0] at HP HP' HT HU HE ⊢
    clear hW0
    refine (checkTable_to A n c ps _ _ _ HN.out.1 hm HP.out HX.out rfl).mono ?_
    rintro e w1 ⟨rfl, hb1⟩
    have hT1 := blkOn HT.out hb1
    have HE1 := Lib.hid (below_then HE.out hb1)
    have r0 := hT1.cell 0
    have f0 := hT1.frozen 0
    have lT := hT1.lt
    simp at r0
    clear hb1 hT1
    go_wp2
    refine bodyPost_ret (v := .tuple #[.agg #[.slice none 0 0], .int .i64 11]) (by simp [results, Try.results115, go_sem, r0, lT]) rfl ⟨_, rfl, okPts_bad (by omega) _ _ _, ?_⟩
    first
      | exact HE1.out.setCell (p := ⟨w.heap.size + 1 + 1 + 1, 0, none⟩) (by show w.heap.size ≤ w.heap.size + 1 + 1 + 1; omega) _
      | exact (HE1.out.alloc HE1.out.size _).setCell (p := ⟨w.heap.size + 1 + 1 + 1, 0, none⟩) (by show w.heap.size ≤ w.heap.size + 1 + 1 + 1; omega) _
      | exact (HE1.out.setCell (p := ⟨w.heap.size + 1 + 1 + 1, 0, none⟩) (by show w.heap.size ≤ w.heap.size + 1 + 1 + 1; omega) _).alloc (by have := HE1.out.size; simp [World.setCell]; omega) _
  · have hu : tabOk qs = false := by
      cases h : tabOk qs
      · rfl
      · exact absurd ⟨ht, h⟩ h0
    have HX := Lib.hid ht; have HY := Lib.hid hu; clear ht hu h0
    go_enter Try.func115, Try.ntmps115
    go_wp2_with fail
    obtain ⟨W0, hW0⟩ : ∃ W0, ((((w.alloc (.cells #[.slice A n c] 43)).alloc (.cells #[.slice A' n' c'] 43)).alloc (.cells #[hullFn] 28)).alloc (.cells #[.slice none 0 0] 43)) = W0 := ⟨_, rfl⟩
    rw [hW0] at HP HP' HT HU HE ⊢
    clear hW0
    refine (checkTable_to A n c ps _ _ _ HN.out.1 hm HP.out HX.out rfl).mono ?_
    rintro e w1 ⟨rfl, hb1⟩
    have hU1 := blkOn HU.out hb1
    have c1 := hU1.cell 0
    simp at c1
    have HT1 := Lib.hid (blkOn HT.out hb1); have HE1 := Lib.hid (below_then HE.out hb1); have HP1 := Lib.hid (HP'.out.below hb1)
    clear hb1 hU1
    go_wp2_with fail
    refine (checkTable_to A' n' c' qs _ _ _ HN.out.2 hm' HP1.out HY.out rfl).mono ?_
    rintro e w2 ⟨rfl, hb2⟩
    have hT1 := blkOn HT1.out hb2
    have HE2 := Lib.hid (below_then HE1.out hb2)
    have r0 := hT1.cell 0
    have f0 := hT1.frozen 0
    have lT := hT1.lt
    simp at r0
    clear hb2 hT1 c1
    go_wp2
    refine bodyPost_ret (v := .tuple #[.agg #[.slice none 0 0], .int .i64 11]) (by simp [results, Try.results115, go_sem, r0, lT]) rfl ⟨_, rfl, okPts_bad (by omega) _ _ _, ?_⟩
    first
      | exact HE2.out.setCell (p := ⟨w.heap.size + 1 + 1 + 1, 0, none⟩) (by show w.heap.size ≤ w.heap.size + 1 + 1 + 1; omega) _
      | exact (HE2.out.alloc HE2.out.size _).setCell (p := ⟨w.heap.size + 1 + 1 + 1, 0, none⟩) (by show w.heap.size ≤ w.heap.size + 1 + 1 + 1; omega) _
      | exact (HE2.out.setCell (p := ⟨w.heap.size + 1 + 1 + 1, 0, none⟩) (by show w.heap.size ≤ w.heap.size + 1 + 1 + 1; omega) _).alloc (by have := HE2.out.size; simp [World.setCell]; omega) _
set_option maxRecDepth 100000 in
set_option maxHeartbeats 4000000 in
theorem combine_noPlaceH (b o n c b' o' n' c' : Nat) (ps qs : List P3) (LO HI : Int) (w : World)
    (hn : n = ps.length) (h2 : 1 ≤ n) (ht : tabOk ps = true) (hn' : n' = qs.length) (h2' : 1 ≤ n') (ht' : tabOk qs = true)
    (hb : b < w.heap.size) (hb' : b' < w.heap.size) (hc : PtsAt w b o ps) (hc' : PtsAt w b' o' qs)
    (hLO : max (firstX ps) (firstX qs) = LO) (hHI : min (lastX ps) (lastX qs) = HI) (hov : ¬ LO ≤ HI) :
    Calls Try.prog 115 #[tv (some ⟨b, o, none⟩) n c, tv (some ⟨b', o', none⟩) n' c', hullFn] w (GivesTabE w 4 []) := by
  obtain ⟨i0, hi, hz0, hz1, hz2⟩ := info_parts Try.info3
  have hp40 := (tabOk_len ht).2
  have hq40 := (tabOk_len ht').2
  have hml : n ≤ maxLen := by unfold maxLen; omega
  have hml' : n' ≤ maxLen := by unfold maxLen; omega
  have hn40 : n ≤ 40 := by omega
  have hn40' : n' ≤ 40 := by omega
  have tle : HI < LO := by omega
  have HN := Lib.hid (And.intro hn (And.intro ht (And.intro hn' ht'))); clear hn ht hn' ht'
  have HD := Lib.hid (And.intro hLO hHI); clear hLO hHI hov
  have hJ : JoinedH ((((w.alloc (.cells #[.slice (some ⟨b, o, none⟩) n c] 43)).alloc (.cells #[.slice (some ⟨b', o', none⟩) n' c'] 43)).alloc (.cells #[hullFn] 28)).alloc (.cells #[.slice none 0 0] 43)) (w.heap.size + 1 + 1) w.heap.size (w.heap.size + 1) b o n c b' o' n' c' ps qs := by
    have hE : Below w.heap.size w ((((w.alloc (.cells #[.slice (some ⟨b, o, none⟩) n c] 43)).alloc (.cells #[.slice (some ⟨b', o', none⟩) n' c'] 43)).alloc (.cells #[hullFn] 28)).alloc (.cells #[.slice none 0 0] 43)) := below_a2 (below_a2 (Below.refl _ _))
    refine ⟨?_, ?_, ?_, hc.below hE hb, hc'.below hE hb', Nat.lt_of_lt_of_le hb hE.size, Nat.lt_of_lt_of_le hb' hE.size⟩
    · have h := (Blk.new ((w.alloc (.cells #[.slice (some ⟨b, o, none⟩) n c] 43)).alloc (.cells #[.slice (some ⟨b', o', none⟩) n' c'] 43)) 28 #[hullFn]).alloc (.cells #[.slice none 0 0] 43)
      simpa only [World.size_alloc] using h
    · exact (((Blk.new w 43 #[.slice (some ⟨b, o, none⟩) n c]).alloc _).alloc _).alloc _
    · have h := ((Blk.new (w.alloc (.cells #[.slice (some ⟨b, o, none⟩) n c] 43)) 43 #[.slice (some ⟨b', o', none⟩) n' c']).alloc (.cells #[hullFn] 28)).alloc (.cells #[.slice none 0 0] 43)
      simpa only [World.size_alloc] using h
  have hT := Blk.new (((w.alloc (.cells #[.slice (some ⟨b, o, none⟩) n c] 43)).alloc (.cells #[.slice (some ⟨b', o', none⟩) n' c'] 43)).alloc (.cells #[hullFn] 28)) 43 #[.slice none 0 0]
  simp only [World.size_alloc] at hT
  have hE : Below w.heap.size w ((((w.alloc (.cells #[.slice (some ⟨b, o, none⟩) n c] 43)).alloc (.cells #[.slice (some ⟨b', o', none⟩) n' c'] 43)).alloc (.cells #[hullFn] 28)).alloc (.cells #[.slice none 0 0] 43)) := below_a2 (below_a2 (Below.refl _ _))
  have HJ := Lib.hid hJ; have HT := Lib.hid hT; have HE := Lib.hid hE
  clear hJ hT hE hc hc'
  go_enter Try.func115, Try.ntmps115
  go_wp2_with fail
  obtain ⟨W0, hW0⟩ : ∃ W0, ((((w.alloc (.cells #[.slice (some ⟨b, o, none⟩) n c] 43)).alloc (.cells #[.slice (some ⟨b', o', none⟩) n' c'] 43)).alloc (.cells #[hullFn] 28)).alloc (.cells #[.slice none 0 0] 43)) = W0 := ⟨_, rfl⟩
  rw [hW0] at HJ HT HE ⊢
  clear hW0
  refine (checkTable_to _ n c ps _ _ _ HN.out.1 hml (HJ.out.2.2.2.1.pts HJ.out.2.2.2.2.2.1) HN.out.2.1 rfl).mono ?_
  rintro e w1 ⟨rfl, hb1⟩
  have HJ1 := Lib.hid (HJ.out.below hb1); have HT1 := Lib.hid (blkOn HT.out hb1); have HE1 := Lib.hid (below_then HE.out hb1)
  clear hb1
  have c1 := HJ1.out.2.2.1.cell 0
  simp at c1
  go_wp2_with fail
  refine (checkTable_to _ n' c' qs _ _ _ HN.out.2.2.1 hml' (HJ1.out.2.2.2.2.1.pts HJ1.out.2.2.2.2.2.2) HN.out.2.2.2 rfl).mono ?_
  rintro e w2 ⟨rfl, hb2⟩
  have HJ2 := Lib.hid (HJ1.out.below hb2); have HT2 := Lib.hid (blkOn HT1.out hb2); have HE2 := Lib.hid (below_then HE1.out hb2)
  clear hb2 c1
  have l0 : w.heap.size < w2.heap.size := HJ2.out.2.1.lt
  have l1 : w.heap.size + 1 < w2.heap.size := HJ2.out.2.2.1.lt
  have c0 := HJ2.out.2.1.cell 0
  have c1 := HJ2.out.2.2.1.cell 0
  simp at c0 c1
  have HD1 : Hid (∀ W, Below w2.heap.size w2 W → Calls Try.prog 118 #[tv (some ⟨b, o, none⟩) n c] W fun e w' => e = .returned (rv (firstX ps) (lastX ps)) ∧ Below W.heap.size W w') :=
    Lib.hid fun W hW => domain_tab _ n c ps W HN.out.1 ((HJ2.out.below hW).2.2.2.1.pts (HJ2.out.below hW).2.2.2.2.2.1) HN.out.2.1
  have HD2 : Hid (∀ W, Below w2.heap.size w2 W → Calls Try.prog 118 #[tv (some ⟨b', o', none⟩) n' c'] W fun e w' => e = .returned (rv (firstX qs) (lastX qs)) ∧ Below W.heap.size W w') :=
    Lib.hid fun W hW => domain_tab _ n' c' qs W HN.out.2.2.1 ((HJ2.out.below hW).2.2.2.2.1.pts (HJ2.out.below hW).2.2.2.2.2.2) HN.out.2.2.2
  go_upto_region 3 with fail
  go_cut [8] (fun s8 wx => ∃ B, s8 = .pointer (some ⟨B, 0, none⟩) ∧ Blk wx B 23 #[.int .i64 LO, .int .i64 HI] ∧ w2.heap.size ≤ B ∧ Below w2.heap.size w2 wx)
  case first =>
    go_region_held3 (fun w' => w'.cell? ⟨w.heap.size, 0, none⟩ = some (.slice (some ⟨b, o, none⟩) n c) ∧ w'.cell? ⟨w.heap.size + 1, 0, none⟩ = some (.slice (some ⟨b', o', none⟩) n' c') ∧ Below w2.heap.size w2 w')
      (first | exact ⟨c0, c1, (Below.refl _ _).drew⟩ | exact keepC (by assumption) (by assumption) l0 l1 | exact keepCa (by assumption) l0 l1 | exact keepCs (by assumption) l0 l1 (by first | exact Nat.le_refl _ | assumption))
      (first
        | (go_at_call 118; (with_reducible refine (HD1.out _ (belowOf (by assumption))).mono ?_); rintro e w3 ⟨rfl, hb3⟩; have s3 := (below_then (belowOf (W2 := w2) (A := w.heap.size) (B := w.heap.size + 1) (by assumption)) hb3).size; (try have N1 : Blk w3 w2.heap.size 23 #[.int .i64 0, .int .i64 0] := blkNewD hb3))
        | (go_at_call 118; (with_reducible refine (HD2.out _ (belowOf (by assumption))).mono ?_); rintro e w4 ⟨rfl, hb4⟩; have s4 := (below_then (belowOf (W2 := w2) (A := w.heap.size) (B := w.heap.size + 1) (by assumption)) hb4).size; (first | with_reducible have N2 := blkNew hb4 | have N2 := blkOn N1 hb4 | skip))
        | (go_at_call 86; refine (common_to _ _ _ _ LO HI _ HD.out.1 HD.out.2).mono ?_; rintro e w5 ⟨rfl, hb5⟩; have T5 := keepC (W2 := w2) (A := w.heap.size) (B := w.heap.size + 1) hb5 (by assumption) l0 l1; (first | (with_reducible have N3 := blkNew hb5; have d0 := N3.cell 0; have d1 := N3.cell 1; have d2 := N3.frozen 0; have d3 := N3.frozen 1; simp at d0 d1) | (have N3 := blkOn N2 hb5; have d0 := N3.cell 0; have d1 := N3.cell 1; have d2 := N3.frozen 0; have d3 := N3.frozen 1; simp at d0 d1) | skip)))
    all_goals go_wp2_with fail
    all_goals go_meet
    all_goals (first
      | exact ⟨_, rfl, Blk.new _ _ _, T5.2.2.size, T5.2.2.alloc T5.2.2.size _⟩
      | exact ⟨_, rfl, blk2 N3 LO HI, s4, (T5.2.2.setCell (p := ⟨_, 0, none⟩) s4 _).setCell (p := ⟨_, 1, none⟩) s4 _⟩
      | exact ⟨_, rfl, blk2 N3 LO HI, s3, (T5.2.2.setCell (p := ⟨_, 0, none⟩) s3 _).setCell (p := ⟨_, 1, none⟩) s3 _⟩
      | exact ⟨_, rfl, blk2 N3 LO HI, Nat.le_refl _, (T5.2.2.setCell (p := ⟨_, 0, none⟩) (Nat.le_refl _) _).setCell (p := ⟨_, 1, none⟩) (Nat.le_refl _) _⟩)
  case rest =>
    obtain ⟨B, rfl, hBk, hB2, hbc⟩ := hcut
    have HJc := Lib.hid (HJ2.out.below hbc); have HTc := Lib.hid (blkOn HT2.out hbc); have HEc := Lib.hid (below_then HE2.out hbc)
    have z0 := hBk.cell 0
    have z1 := hBk.cell 1
    have lB := hBk.lt
    simp at z0 z1
    have HBk := Lib.hid hBk
    clear hBk hbc c0 c1 HD1 HD2
    have hT1 := HTc.out
    have r0 := hT1.cell 0
    have f0 := hT1.frozen 0
    have lT := hT1.lt
    simp at r0
    clear hT1
    go_wp2
    refine bodyPost_ret (v := .tuple #[.agg #[.slice none 0 0], .int .i64 4]) (by simp [results, Try.results115, go_sem, r0, lT]) rfl ⟨_, rfl, okPts_bad (by omega) _ _ _, ?_⟩
    first
      | exact HEc.out.setCell (p := ⟨w.heap.size + 1 + 1 + 1, 0, none⟩) (by show w.heap.size ≤ w.heap.size + 1 + 1 + 1; omega) _
      | exact (HEc.out.alloc HEc.out.size _).setCell (p := ⟨w.heap.size + 1 + 1 + 1, 0, none⟩) (by show w.heap.size ≤ w.heap.size + 1 + 1 + 1; omega) _
      | exact (HEc.out.setCell (p := ⟨w.heap.size + 1 + 1 + 1, 0, none⟩) (by show w.heap.size ≤ w.heap.size + 1 + 1 + 1; omega) _).alloc (by have := HEc.out.size; simp [World.setCell]; omega) _
theorem combine_hull (A : Option Addr) (n c : Nat) (A' : Option Addr) (n' c' : Nat) (ps qs : List P3) (w : World)
    (hn : n = ps.length) (hm : n ≤ maxLen) (hn' : n' = qs.length) (hm' : n' ≤ maxLen) (hp : Pts w A ps) (hp' : Pts w A' qs) :
    Calls Try.prog 115 #[tv A n c, tv A' n' c', hullFn] w (GivesTabE w (joinErr (hullAt ps qs) ps qs) (built (hullAt ps qs) (placesOf ps qs))) := by
  unfold joinErr
  by_cases h : tabOk ps = true ∧ tabOk qs = true
  · rw [if_pos h]
    have h1 := (tabOk_len h.1).1
    have h2 := (tabOk_len h.2).1
    obtain ⟨b, o, rfl, hb, hc⟩ := hp.block h1
    obtain ⟨b', o', rfl, hb', hc'⟩ := hp'.block h2
    by_cases g : max (firstX ps) (firstX qs) ≤ min (lastX ps) (lastX qs)
    · rw [if_pos g]
      exact combine_hullE b o n c b' o' n' c' ps qs _ _ (placesOf ps qs) w hn (by omega) h.1 hn' (by omega) h.2 hb hb' hc hc' rfl rfl g (placesOf_rising ps qs) (places_corners h1 h2 g)
    · rw [if_neg g]
      exact (combine_noPlaceH b o n c b' o' n' c' ps qs _ _ w hn (by omega) h.1 hn' (by omega) h.2 hb hb' hc hc' rfl rfl g).mono fun e w' => givesTab_bad (by omega)
  · rw [if_neg h]
    exact (combine_badTH A n c A' n' c' ps qs w hn hm hn' hm' hp hp' h).mono fun e w' => givesTab_bad (by omega)

set_option maxRecDepth 100000 in
set_option maxHeartbeats 2000000 in
theorem either_any (A : Option Addr) (n c : Nat) (A' : Option Addr) (n' c' : Nat) (ps qs : List P3) (w : World)
    (hn : n = ps.length) (hm : n ≤ maxLen) (hn' : n' = qs.length) (hm' : n' ≤ maxLen) (hp : Pts w A ps) (hp' : Pts w A' qs) :
    Calls Try.prog 59 #[tv A n c, tv A' n' c'] w (GivesTabE w (joinErr (hullAt ps qs) ps qs) (built (hullAt ps qs) (placesOf ps qs))) := by
  have hE : Below w.heap.size w (((w.alloc (.cells #[.slice A n c] 43)).alloc (.cells #[.slice A' n' c'] 43)).alloc (.cells #[.slice none 0 0] 43)) := below_a3 (Below.refl _ _)
  have hT := Blk.new ((w.alloc (.cells #[.slice A n c] 43)).alloc (.cells #[.slice A' n' c'] 43)) 43 #[.slice none 0 0]
  simp only [World.size_alloc] at hT
  obtain ⟨E, hEE⟩ : ∃ E, joinErr (hullAt ps qs) ps qs = E := ⟨_, rfl⟩
  obtain ⟨R, hR⟩ : ∃ R, built (hullAt ps qs) (placesOf ps qs) = R := ⟨_, rfl⟩
  have hC : Hid (∀ W, Below w.heap.size w W → Calls Try.prog 115 #[tv A n c, tv A' n' c', hullFn] W (GivesTabE W E R)) :=
    Lib.hid fun W hW => by rw [← hEE, ← hR]; exact combine_hull A n c A' n' c' ps qs W hn hm hn' hm' (hp.below hW) (hp'.below hW)
  rw [hEE, hR]
  have HT := Lib.hid hT; have HE := Lib.hid hE
  clear hn hn' hp hp' hEE hR hT hE
  go_enter Try.func59, Try.ntmps59
  go_wp2_with fail
  refine (hC.out _ HE.out).mono ?_
  rintro e w1 ⟨v, rfl, ho, hb1⟩
  obtain ⟨sp, sn, sc, rfl⟩ := ho.slice
  have hT1 := blkOn HT.out hb1
  have r0 := hT1.cell 0
  have f0 := hT1.frozen 0
  have lT := hT1.lt
  simp at r0
  have HO := Lib.hid ho; have HE1 := Lib.hid (below_then HE.out hb1)
  have HLe := Lib.hid HE.out.size
  have lT0 := HT.out.lt
  clear ho hb1 hT1
  go_wp2
  have hB5 := HE1.out.setCell (p := ⟨w.heap.size + 1 + 1, 0, none⟩) (by show w.heap.size ≤ w.heap.size + 1 + 1; omega) (.slice sp sn sc)
  refine bodyPost_ret (v := .tuple #[.agg #[.slice sp sn sc], .int .i64 E]) (by simp [results, Try.results59, go_sem, r0, lT]) rfl ⟨_, rfl, ?_, hB5⟩
  refine World.ownsRow.kept (World.ownsRow.mono (show w1.ownsRow _ 87 3 _ _ _ from HO.out) HLe.out) (grownBy_setCell' w1 _ _) (.inr ?_)
  intro e
  have := (World.ownsRow.lt (show w1.ownsRow _ 87 3 _ _ _ from HO.out) _ e).1
  omega
end

end Go.Proofs.Ytmenlaefekkahaa
