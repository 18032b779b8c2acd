/- The contract of at of a table (fix). Its conditions: the table's points lie in memory, it is valid. -/
import Derived.Test.YtmenlaefekkahaaB4
import Derived.WalkSmall
set_option linter.unusedVariables false
set_option linter.unusedSimpArgs false
set_option linter.constructorNameAsVariable false
namespace Go.Proofs.Ytmenlaefekkahaa
open Go.RowKit Go.Shelf
attribute [local go_sem] Oper.semAt_some

/-- The numbers of a valid point. -/
def Okp (p : P3) : Prop := 0 ≤ p.1 ∧ p.1 ≤ 1000000 ∧ -1000000000 ≤ p.2.1 ∧ p.2.1 ≤ 1000000000 ∧ -1000000000 ≤ p.2.2 ∧ p.2.2 ≤ 1000000000
abbrev Pc := { x : P3 × P3 // Okp x.1 ∧ Okp x.2 }
theorem okp_of : ∀ (ps : List P3) (last : Int), ptsOk last ps = true → -1 ≤ last → ∀ p ∈ ps, Okp p ∧ last < p.1
  | [], _, _, _, p, hp => by cases hp
  | q :: ps, last, h, hl, p, hp => by
    simp only [ptsOk, ptOk, inB, Bool.and_eq_true, decide_eq_true_eq] at h
    obtain ⟨⟨h1, h2, h3, h4, h5⟩, h6⟩ := h
    rcases List.mem_cons.1 hp with rfl | hp
    · exact ⟨⟨by omega, by omega, by omega, by omega, by omega, by omega⟩, h1⟩
    · have := okp_of ps q.1 h6 (by omega) p hp
      exact ⟨this.1, by omega⟩
theorem tabOk_pts {ps : List P3} (h : tabOk ps = true) : ptsOk (-1) ps = true := by
  unfold tabOk at h; rw [Bool.and_eq_true] at h; exact h.2
theorem lift_all {α : Type} {Q : α → Prop} : ∀ (l : List α), (∀ x ∈ l, Q x) → ∃ xs : List { x : α // Q x }, xs.map (·.1) = l
  | [], _ => ⟨[], rfl⟩
  | x :: l, h => by
    obtain ⟨xs, hx⟩ := lift_all l (fun y hy => h y (List.mem_cons_of_mem _ hy))
    exact ⟨⟨x, h x (List.mem_cons_self ..)⟩ :: xs, by simp [hx]⟩
theorem pieces_list {ps : List P3} (h : tabOk ps = true) : ∃ xs : List Pc, xs.map (·.1) = pcs ps :=
  lift_all _ fun x hx => by
    rcases pcs_cases ps with ⟨p, rfl⟩ | e
    · have hx' : x = (p, p) := by simpa [pcs] using hx
      subst hx'
      have := (okp_of [p] (-1) (tabOk_pts h) (by omega) p (by simp)).1
      exact ⟨this, this⟩
    · rw [e] at hx
      have hx' : (x.1, x.2) ∈ ps.zip ps.tail := hx
      have h1 := (List.of_mem_zip hx').1
      have h2 := (List.of_mem_zip hx').2
      have hk := okp_of ps (-1) (tabOk_pts h) (by omega)
      exact ⟨(hk _ h1).1, (hk _ (List.mem_of_mem_tail h2)).1⟩

theorem pieces_stops (xs : List Pc) (m : Nat) (hm : 1 ≤ m) (Bt n₀ b o len cap : Nat) (ps : List P3) (hlen : len = ps.length) (h2 : 1 ≤ len) (h40 : len ≤ 40) (hxs : xs.map (·.1) = pcs ps) (hb : b < n₀) (w : World) (hBt : Bt < w.heap.size) (hn₀ : n₀ ≤ w.heap.size)
    (hcb : w.cell? ⟨Bt, 0, none⟩ = some (.slice (some ⟨b, o, none⟩) len cap))
    (hc : ∀ k p, ps[k]? = some p → w.cell? ⟨b, o + k * 3, none⟩ = some (.int .i64 p.1) ∧ w.cell? ⟨b, o + k * 3 + 1, none⟩ = some (.int .i64 p.2.1) ∧ w.cell? ⟨b, o + k * 3 + 2, none⟩ = some (.int .i64 p.2.2)) :
    SeqStopsK Fence.wide m Try.prog 132 #[.pointer (some ⟨Bt, 0, none⟩)] (fun x : Pc => #[pv x.1.1 x.1.2]) (Below n₀) (fun ys => ys = xs) (fun pre => pre <+: xs) xs.length w := fun l J Jx W hW hJ _ hY h0 =>
  pieces1_in (fun x : Pc => x.1) xs m hm l Bt n₀ b o len cap ps hlen h2 h40 hxs hb J Jx W.heap.size hJ hY W (Nat.le_trans hn₀ hW.size) ((hW.cell (p := ⟨Bt, 0, none⟩) hBt).trans hcb)
    (fun k p hp => by
      obtain ⟨c0, c1, c2⟩ := hc k p hp
      exact ⟨(hW.cell (p := ⟨b, _, none⟩) (by show b < _; omega)).trans c0, (hW.cell (p := ⟨b, _, none⟩) (by show b < _; omega)).trans c1, (hW.cell (p := ⟨b, _, none⟩) (by show b < _; omega)).trans c2⟩) h0

theorem pieces_any (A : Option Addr) (n c : Nat) (w : World) :
    Calls Try.prog 111 #[tv A n c] w fun e w' => e = .returned (.func (.func 132) #[] #[.pointer (some ⟨w.heap.size, 0, none⟩)]) ∧ w.alloc (.cells #[.slice A n c] 43) = w' := by
  go_enter Try.func111, Try.ntmps111
  go_wp2
  go_ret
  exact ⟨rfl, rfl⟩

/-- A piece at a place. -/
def pAt (p q : P3) (x : Int) : Int × Int := (p.2.1 + riseS (x - p.1) (q.1 - p.1) (q.2.1 - p.2.1), p.2.2 - riseS (x - p.1) (q.1 - p.1) (p.2.2 - q.2.2))
/-- A table at a place. -/
def atS (ps : List P3) (x : Int) : Int × Int :=
  match (pcs ps).find? (fun pq => decide (x ≤ pq.2.1)) with
  | some pq => pAt pq.1 pq.2 x
  | none => (0, 0)
theorem pieceAt_any (p q : P3) (x : Int) (w : World) (hp : Okp p) (hq : Okp q) (hx : 0 ≤ x) (hx' : x ≤ 1000000) :
    Calls Try.prog 106 #[pv p q, .int .i64 x] w fun e w' => e = .returned (rv (pAt p q x).1 (pAt p q x).2) ∧ Below w.heap.size w w' := by
  obtain ⟨a1, a2, a3, a4, a5, a6⟩ := hp
  obtain ⟨b1, b2, b3, b4, b5, b6⟩ := hq
  exact pieceAt_core p.1 p.2.1 p.2.2 q.1 q.2.1 q.2.2 x w a1 a2 hx hx' b1 b2 a3 a4 a5 a6 b3 b4 b5 b6

theorem blk_own {β : Type} (B : Nat) (t : TypeId) (f : β → Array Value) : Own (fun s W => Blk W B t (f s)) := fun s X Y row hs hg hrow =>
  hs.grown hg (fun e' => by obtain ⟨o, ho, hc⟩ := hrow B e'.symm; rw [show X.heap[B]? = _ from hs] at ho; cases ho; cases hc)
theorem keeps_below {W W' : World} (B : Nat) (h : Below W.heap.size W W') : KeepsFrom B W W' := KeepsFrom.of_grownBy (below_grownNone h) (fun _ e => by cases e)

/-- The pieces that end ahead of a place. -/
def AllPast (pre : List Pc) (x : Int) : Prop := ∀ y ∈ pre, y.1.2.1 < x
theorem AllPast.snoc {pre : List Pc} {x : Int} {y : Pc} (h : AllPast pre x) (hy : y.1.2.1 < x) : AllPast (pre ++ [y]) x := by
  intro z hz
  rcases List.mem_append.1 hz with hz | hz
  · exact h z hz
  · simp at hz; subst hz; exact hy

theorem blk2 {w : World} {g : Nat} {t : TypeId} {x y : Value} (h : Blk w g t #[x, y]) (a b : Int) :
    Blk ((w.setCell ⟨g, 0, none⟩ (.int .i64 a)).setCell ⟨g, 1, none⟩ (.int .i64 b)) g t #[.int .i64 a, .int .i64 b] := by
  have h3 := (h.set_ 0 (.int .i64 a)).set_ 1 (.int .i64 b)
  simpa using h3

set_option maxRecDepth 100000 in
set_option maxHeartbeats 4000000 in
theorem at_two (b o n c : Nat) (ps : List P3) (x : Int) (w : World) (hn : n = ps.length) (h2 : 1 ≤ n) (hb : b < w.heap.size) (ht : tabOk ps = true) (hx : 0 ≤ x) (hx' : x ≤ 1000000)
    (hc : ∀ k p, ps[k]? = some p → w.cell? ⟨b, o + k * 3, none⟩ = some (.int .i64 p.1) ∧ w.cell? ⟨b, o + k * 3 + 1, none⟩ = some (.int .i64 p.2.1) ∧ w.cell? ⟨b, o + k * 3 + 2, none⟩ = some (.int .i64 p.2.2)) :
    Calls Try.prog 91 #[tv (some ⟨b, o, none⟩) n c, .int .i64 x] w fun e w' => e = .returned (rv (atS ps x).1 (atS ps x).2) ∧ Below w.heap.size w w' := by
  have h40 : n ≤ 40 := by have := (tabOk_len ht).2; omega
  obtain ⟨xs, hxs⟩ := pieces_list ht
  refine (callsIn_wide (n := 6)).1 ?_
  refine callsIn_of_wp_marks Try.func91 rfl trivial ?_ rfl
  simp only [Try.ntmps91, List.size_toArray, List.length_cons, List.length_nil, Nat.reduceAdd, Nat.reduceSub, Array.replicate_succ, Array.replicate_zero, List.push_toArray, List.append_toArray, List.nil_append, List.cons_append]
  have HC := Lib.hid hc; clear hc
  have HN := Lib.hid hn; clear hn
  have HX := Lib.hid hxs; clear hxs
  have HT := Lib.hid ht; clear ht
  gi_wp2_with (refine ⟨trivial, ?_⟩; gi_at_call 111; refine (callsIn_wide.2 (pieces_any _ _ _ _)).mono ?_; rintro e w' ⟨rfl, rfl⟩)
  have bX := (Blk.new (w.alloc (.cells #[.slice (some ⟨b, o, none⟩) n c] 43)) 3 #[.int .i64 x]).alloc (.cells #[.int .i64 0, .int .i64 0] 23) |>.alloc (.cells #[.slice (some ⟨b, o, none⟩) n c] 43)
  have bR := (Blk.new ((w.alloc (.cells #[.slice (some ⟨b, o, none⟩) n c] 43)).alloc (.cells #[.int .i64 x] 3)) 23 #[.int .i64 0, .int .i64 0]).alloc (.cells #[.slice (some ⟨b, o, none⟩) n c] 43)
  have bT := Blk.new (((w.alloc (.cells #[.slice (some ⟨b, o, none⟩) n c] 43)).alloc (.cells #[.int .i64 x] 3)).alloc (.cells #[.int .i64 0, .int .i64 0] 23)) 43 #[.slice (some ⟨b, o, none⟩) n c]
  simp only [World.size_alloc] at bX bR bT
  have hB0 : Below w.heap.size w ((((w.alloc (.cells #[.slice (some ⟨b, o, none⟩) n c] 43)).alloc (.cells #[.int .i64 x] 3)).alloc (.cells #[.int .i64 0, .int .i64 0] 23)).alloc (.cells #[.slice (some ⟨b, o, none⟩) n c] 43)) :=
    below_a3 ((Below.refl _ _).alloc (Nat.le_refl _) _)
  have hsz : ((((w.alloc (.cells #[.slice (some ⟨b, o, none⟩) n c] 43)).alloc (.cells #[.int .i64 x] 3)).alloc (.cells #[.int .i64 0, .int .i64 0] 23)).alloc (.cells #[.slice (some ⟨b, o, none⟩) n c] 43)).heap.size = w.heap.size + 4 := by simp
  obtain ⟨W0, hW0⟩ : ∃ W0, ((((w.alloc (.cells #[.slice (some ⟨b, o, none⟩) n c] 43)).alloc (.cells #[.int .i64 x] 3)).alloc (.cells #[.int .i64 0, .int .i64 0] 23)).alloc (.cells #[.slice (some ⟨b, o, none⟩) n c] 43)) = W0 := ⟨_, rfl⟩
  rw [hW0] at bX bR bT hB0 hsz ⊢
  clear hW0
  have hc0 : ∀ k p, ps[k]? = some p → W0.cell? ⟨b, o + k * 3, none⟩ = some (.int .i64 p.1) ∧ W0.cell? ⟨b, o + k * 3 + 1, none⟩ = some (.int .i64 p.2.1) ∧ W0.cell? ⟨b, o + k * 3 + 2, none⟩ = some (.int .i64 p.2.2) := fun k p hp => by
    obtain ⟨c0, c1, c2⟩ := HC.out k p hp
    exact ⟨(hB0.cell (p := ⟨b, _, none⟩) hb).trans c0, (hB0.cell (p := ⟨b, _, none⟩) hb).trans c1, (hB0.cell (p := ⟨b, _, none⟩) hb).trans c2⟩
  refine wpIn_rangeFunc_ownH rfl (by omega) (gf := 132) (lb := #[.pointer (some ⟨w.heap.size + 1 + 1 + 1, 0, none⟩)]) rfl trivial (enters_of Try.func132 (by kernel_rfl) rfl)
    (pieces_stops xs (6 - 1) (by omega) (w.heap.size + 1 + 1 + 1) w.heap.size b o n c ps HN.out h2 h40 HX.out hb W0 (by omega) (by omega) (bT.cell 0) hc0) belowK_t (belowK_b (by omega)) (Below.refl _ _) (fun _ => rfl)
    (fun pre W => (Blk W (w.heap.size + 1) 3 #[.int .i64 x] ∧ Blk W (w.heap.size + 1 + 1) 23 #[.int .i64 0, .int .i64 0] ∧ AllPast pre x) ∧ Below w.heap.size w W)
    (fun cd pre W => (cd = .ret ∧ ∃ pre' y, pre = pre' ++ [y] ∧ AllPast pre' x ∧ x ≤ y.1.2.1 ∧ Blk W (w.heap.size + 1 + 1) 23 #[.int .i64 (pAt y.1.1 y.1.2 x).1, .int .i64 (pAt y.1.1 y.1.2 x).2]) ∧ Below w.heap.size w W)
    (OwnFrom.and (Own.from (fun s X Y row hs hg hr => ⟨blk_own (β := Unit) _ _ (fun _ => _) () X Y row hs.1 hg hr, blk_own (β := Unit) _ _ (fun _ => _) () X Y row hs.2.1 hg hr, hs.2.2⟩) _) (ownFrom_below (Nat.le_refl _) (by omega)))
    (fun cd => OwnFrom.and (Own.from (fun s X Y row hs hg hr => by
      obtain ⟨e1, pre', y, e2, e3, e4, e5⟩ := hs
      exact ⟨e1, pre', y, e2, e3, e4, blk_own (β := Unit) _ _ (fun _ => _) () X Y row e5 hg hr⟩) _) (ownFrom_below (Nat.le_refl _) (by omega)))
    ⟨⟨bX, bR, fun _ h => by cases h⟩, hB0⟩
    (fun y a' W => ∃ Bx, w.heap.size + 1 + 1 < Bx ∧ Blk W Bx 111 #[.int .i64 y.1.1.1, .int .i64 y.1.1.2.1, .int .i64 y.1.1.2.2, .int .i64 y.1.2.1, .int .i64 y.1.2.2.1, .int .i64 y.1.2.2.2] ∧ a' = { tmps := #[tv (some ⟨b, o, none⟩) n c, .int .i64 x, .pointer (some ⟨w.heap.size, 0, none⟩), .pointer (some ⟨w.heap.size + 1, 0, none⟩), .pointer (some ⟨w.heap.size + 1 + 1, 0, none⟩), .pointer (some ⟨Bx, 0, none⟩), .agg #[.slice (some ⟨b, o, none⟩) n c], .func (.func 132) #[] #[.pointer (some ⟨w.heap.size + 1 + 1 + 1, 0, none⟩)], pv y.1.1 y.1.2, undef, undef, undef, undef, undef, undef, undef, undef, undef], defers := [] })
    (fun y a' _ X Y row hs hg hr => by
      obtain ⟨Bx, h1, h2, h3⟩ := hs
      exact ⟨Bx, h1, blk_own (β := Unit) _ _ (fun _ => _) () X Y row h2 hg (fun r e => (hr r e).2), h3⟩)
    ?assign ?body ?done ?stop
  case assign =>
    rintro l pre y W K ⟨⟨b1, b2, b3⟩, hB1⟩ hK
    gi_wp2
    exact hK _ _ ((KeepsOthers.alloc _ _).from _) ((Below.refl _ W).alloc hB1.size _) ⟨⟨b1.alloc _, b2.alloc _, b3⟩, hB1.alloc hB1.size _⟩ ⟨W.heap.size, b2.lt, Blk.new W 111 _, rfl⟩
  case body =>
    rintro l pre y a' W hl ⟨r, hr⟩ ⟨⟨b1, b2, b3⟩, hB1⟩ ⟨Bx, hBx, bP, rfl⟩ hlt
    have x0 := b1.cell 0
    have p0 := bP.cell 0
    have p1 := bP.cell 1
    have p2 := bP.cell 2
    have p3 := bP.cell 3
    have p4 := bP.cell 4
    have p5 := bP.cell 5
    simp at x0 p0 p1 p2 p3 p4 p5
    by_cases hle : x ≤ y.1.2.1
    · gi_wp2_with (refine ⟨trivial, ?_⟩; gi_at_call 106; refine (CallsIn.inRound l (callsIn_wide.2 (pieceAt_any y.1.1 y.1.2 x _ y.2.1 y.2.2 hx hx'))).mono ?_; rintro e W2 ⟨rfl, hb2⟩; have bR2 := b2.below hb2 b2.lt; have r0 := bR2.cell 0; have r1 := bR2.cell 1; have f0 := bR2.frozen 0; have f1 := bR2.frozen 1; simp at r0 r1)
      refine ⟨(keeps_below _ hb2).trans (((KeepsOthers.setCell _ _ _).trans (KeepsOthers.setCell _ _ _)).from _), ⟨rfl, pre, y, rfl, b3, hle, blk2 bR2 _ _⟩, ?_⟩
      exact ((hB1.trans (hb2.mono hB1.size)).setCell (p := ⟨w.heap.size + 1 + 1, 0, none⟩) (by simp; omega) _).setCell (p := ⟨w.heap.size + 1 + 1, 1, none⟩) (by simp; omega) _
    · gi_wp2
      exact ⟨KeepsFrom.refl _ _, Below.refl _ _, ⟨b1, b2, b3.snoc (by omega)⟩, hB1⟩
  case done =>
    rintro D ys W hD rfl ⟨⟨b1, b2, b3⟩, hB1⟩ hK
    have r0 := b2.cell 0
    have r1 := b2.cell 1
    have f0 := b2.frozen 0
    have f1 := b2.frozen 1
    simp at r0 r1
    gi_wp2
    have bD : D ≠ w.heap.size + 1 + 1 := by
      rintro rfl
      unfold Blk at b2; rw [hK] at b2; cases b2
    have b2' := blk2 b2 0 0
    have hK' : ((W.setCell ⟨w.heap.size + 1 + 1, 0, none⟩ (.int .i64 0)).setCell ⟨w.heap.size + 1 + 1, 1, none⟩ (.int .i64 0)).heap[D]? = some (.deferred (some [])) := ((KeepsOthers.setCell _ _ _).trans (KeepsOthers.setCell _ _ _)).same D _ hK rfl
    refine ⟨by simp, .inl ⟨_, _, rfl, run_takeDeferred hK', ?_⟩⟩
    have b3' := b2'.grown (grownBy_putObj' _ D (.deferred none)) (by intro e; injection e with e; exact bD e.symm)
    have q0 := b3'.cell 0
    have q1 := b3'.cell 1
    simp at q0 q1
    have hs : atS ps x = (0, 0) := by
      unfold atS
      rw [← HX.out, List.find?_eq_none.2]
      intro z hz
      obtain ⟨z', hz', rfl⟩ := List.mem_map.1 hz
      have := b3 z' hz'
      simp; omega
    rw [hs]
    refine ⟨rv 0 0, ?_, rfl, ?_⟩
    · simp [results, Try.f91, go_sem, q0, q1]
    · exact ((hB1.setCell (p := ⟨w.heap.size + 1 + 1, 0, none⟩) (by simp; omega) _).setCell (p := ⟨w.heap.size + 1 + 1, 1, none⟩) (by simp; omega) _).trans (belowK_b (w := W0) (by omega) _ D _ _ (by omega) hK' rfl rfl)
  case stop =>
    rintro D cd pre W hD hpre ⟨⟨rfl, pre', y, rfl, b3, hle, b2⟩, hB1⟩ hK
    gi_wp2
    have bD : D ≠ w.heap.size + 1 + 1 := by
      rintro rfl
      unfold Blk at b2; rw [hK] at b2; cases b2
    refine ⟨by simp, .inl ⟨_, _, rfl, run_takeDeferred hK, ?_⟩⟩
    have b3' := b2.grown (grownBy_putObj' _ D (.deferred none)) (by intro e; injection e with e; exact bD e.symm)
    have q0 := b3'.cell 0
    have q1 := b3'.cell 1
    simp at q0 q1
    have hs : atS ps x = pAt y.1.1 y.1.2 x := by
      obtain ⟨rest, hr⟩ := hpre
      unfold atS
      rw [← HX.out, ← hr, List.map_append, List.map_append, List.find?_append, List.find?_append]
      have e1 : (List.map (fun x : Pc => x.val) pre').find? (fun pq => decide (x ≤ pq.2.1)) = none := by
        rw [List.find?_eq_none]
        intro z hz
        obtain ⟨z', hz', rfl⟩ := List.mem_map.1 hz
        have := b3 z' hz'
        simp; omega
      rw [e1]
      simp [hle]
    rw [hs]
    refine ⟨rv (pAt y.1.1 y.1.2 x).1 (pAt y.1.1 y.1.2 x).2, ?_, rfl, ?_⟩
    · simp [results, Try.f91, go_sem, q0, q1]
    · exact hB1.trans (belowK_b (w := W0) (by omega) _ D _ _ (by omega) hK rfl rfl)
end Go.Proofs.Ytmenlaefekkahaa
