/- HoldNarrower: whatever numbers come in, the law returns true and leaves its arguments as they were. No conditions. -/
import Derived.Test.YtemlaaipnhmcoaaGreatR38
import Derived.Test.YtemlaaipnhmcoaaGreatR50
import Derived.Test.YtemlaaipnhmcoaaGreatR44
import Derived.Test.YtemlaaipnhmcoaaGreatR39
import Derived.Test.YtemlaaipnhmcoaaGreatR47
import Derived.Test.YtemlaaipnhmcoaaGreatR49
import Derived.Test.YtemlaaipnhmcoaaGreatR43
import Derived.Test.YtemlaaipnhmcoaaGreatR41
import Derived.Test.YtemlaaipnhmcoaaGreatQ98
set_option linter.unusedVariables false
set_option linter.unusedSimpArgs false
set_option linter.constructorNameAsVariable false
namespace Go.Proofs.YtemlaaipnhmcoaaGreat

section
open Go.RowKit
def partS (lo hi a b : Int) : Int × Int := (lo + a % (hi - lo + 1), lo + a % (hi - lo + 1) + b % (hi - (lo + a % (hi - lo + 1)) + 1))
theorem part_in {lo hi a b : Int} (h : lo ≤ hi) : lo ≤ (partS lo hi a b).1 ∧ (partS lo hi a b).1 ≤ (partS lo hi a b).2 ∧ (partS lo hi a b).2 ≤ hi := by
  obtain ⟨a1, a2⟩ := emod_in a (show (0 : Int) < hi - lo + 1 by omega)
  obtain ⟨b1, b2⟩ := emod_in b (show (0 : Int) < hi - (lo + a % (hi - lo + 1)) + 1 by omega)
  unfold partS
  dsimp only
  omega

set_option maxRecDepth 100000 in
set_option maxHeartbeats 4000000 in
theorem mpart_to (lo hi a b : Int) (w : World) (h : lo ≤ hi) (h1 : -1000000000000 ≤ lo) (h2 : hi ≤ 1000000000000) :
  Calls Tryz.prog 35 #[rv lo hi, .int .i64 a, .int .i64 b] w fun e w' => e = .returned (rv (partS lo hi a b).1 (partS lo hi a b).2) ∧ Below w.heap.size w w' := by
 unfold partS
 dsimp only
 obtain ⟨a1, a2⟩ := emod_in a (show (0 : Int) < hi - lo + 1 by omega)
 obtain ⟨x, hx⟩ : ∃ x, lo + a % (hi - lo + 1) = x := ⟨_, rfl⟩
 rw [hx]
 have CSO : Hid (∀ W, Calls Tryz.prog 17 #[rv lo hi, .int .i64 a] W fun e w' => e = .returned (.int .i64 x) ∧ Below W.heap.size W w') := Lib.hid fun W => int_to (msomewhere_to lo hi a W h h1 h2) hx
 have x1 : lo ≤ x ∧ x ≤ hi := by omega
 have w1 : IntKind.i64.wrap (hi - x) = hi - x := IntWalk.i64_in _ ⟨by omega, by omega⟩
 obtain ⟨g, hg⟩ : ∃ g, hi - x = g := ⟨_, rfl⟩
 replace w1 := w1.trans hg
 rw [hg]
 have w2 : IntKind.i64.wrap (g + 1) = g + 1 := IntWalk.i64_in _ ⟨by omega, by omega⟩
 obtain ⟨k, hk⟩ : ∃ k, g + 1 = k := ⟨_, rfl⟩
 replace w2 := w2.trans hk
 rw [hk]
 obtain ⟨b0, b1⟩ := emod_in b (show (0 : Int) < k by omega)
 obtain ⟨c, hc⟩ : ∃ z, b % k = z := ⟨_, rfl⟩
 rw [hc] at b0 b1 ⊢
 have w3 : IntKind.i64.wrap (x + c) = x + c := IntWalk.i64_in _ ⟨by omega, by omega⟩
 have CM0 : Hid (∀ W, Calls Tryz.prog 23 #[.int .i64 b, .int .i64 k] W fun e w' => e = .returned (.int .i64 c) ∧ Below W.heap.size W w') := Lib.hid fun W => int_to (smod_to b k W (by omega) (by omega)) hc
 clear hc b0 b1 h h1 h2 hk hg hx a1 a2 x1
 have HE := Lib.hid (show Below w.heap.size w ((w.alloc (.cells #[.int .i64 lo, .int .i64 hi] 30)).alloc (.cells #[.int .i64 0, .int .i64 0] 30)) from below_a2 (Below.refl _ _))
 have HK := Lib.hid (boxes2' w 30 30 #[.int .i64 lo, .int .i64 hi] #[.int .i64 0, .int .i64 0])
 go_enter Tryz.func35, Tryz.ntmps35
 go_upto_region 1 with fail
 obtain ⟨W0, hW0⟩ : ∃ W0 : World, ((w.alloc (.cells #[.int .i64 lo, .int .i64 hi] 30)).alloc (.cells #[.int .i64 0, .int .i64 0] 30)) = W0 := ⟨_, rfl⟩
 rw [hW0] at HE HK ⊢
 clear hW0
 obtain ⟨G, hG⟩ : ∃ G, w.heap.size = G := ⟨_, rfl⟩
 rw [hG] at HK ⊢
 have HG := Lib.hid hG; clear hG
 have p_ := HK.out _ (.tail _ (.head _))
 have p_0 := p_.cell 0
 have p_1 := p_.cell 1
 simp at p_0 p_1
 clear p_
 go_wp2_with fail
 refine (CSO.out _).mono ?_
 rintro e y1 ⟨rfl, hq⟩
 have HE1 := Lib.hid (below_then HE.out hq); have HK1 := Lib.hid (HK.out.on hq)
 clear hq HE HK p_0 p_1 CSO
 have p_ := HK1.out _ (.tail _ (.head _))
 have p_0 := p_.cell 0
 have p_1 := p_.cell 1
 simp at p_0 p_1
 clear p_
 go_wp2_with fail
 refine (CM0.out _).mono ?_
 rintro e y2 ⟨rfl, hq⟩
 have HE2 := Lib.hid (below_then HE1.out hq); have HK2 := Lib.hid (HK1.out.on hq)
 clear hq HE1 HK1 p_0 p_1 CM0
 have z_ := HK2.out _ (.head _)
 have z_0 := z_.cell 0
 have z_f0 := z_.frozen 0
 have z_1 := z_.cell 1
 have z_f1 := z_.frozen 1
 have z_l := z_.lt
 simp at z_0 z_f0 z_1 z_f1
 clear z_
 go_wp2
 refine bodyPost_ret (v := rv x (x + c)) (by simp [results, Tryz.results35, go_sem, z_0, z_1]) rfl ⟨rfl, ?_⟩
 have hg := HG.out
 repeat (first | exact HE2.out | refine Below.setCell ?_ (by simp <;> omega) _)
end

section
open Go.RowKit

theorem narrower_in {h : HoldD} {f : FillD} (e : fillErr h f = 0) (n0 n1 n2 n3 : Int) {pn pf : Bool} {D0 D1 P0 P1 : Int} (hn : (f.st != 0) = pn) (hf : decide (3 ≤ f.st ∧ f.st ≤ 5) = pf)
    (e0 : (if pn = true then (partS f.d0 f.d1 n0 n1).1 else f.d0) = D0) (e1 : (if pn = true then (partS f.d0 f.d1 n0 n1).2 else f.d1) = D1)
    (e2 : (if pf = true then (partS f.x0 f.x1 n2 n3).1 else f.x0) = P0) (e3 : (if pf = true then (partS f.x0 f.x1 n2 n3).2 else f.x1) = P1) : Within2 f ⟨f.hold, f.st, P0, P1, D0, D1⟩ := by
  have hd := fill_dens e
  obtain ⟨t1, t2⟩ := fill_state e
  have q := part_in (a := n0) (b := n1) hd.2.1
  unfold Within2
  dsimp only
  have hpl : 3 ≤ f.st → f.x0 ≤ f.x1 := fun g => by
    have pl := fill_place e g
    simp only [inB, decide_eq_true_eq] at pl
    omega
  subst e0 e1 e2 e3
  refine ⟨rfl, rfl, ?_, ?_, ?_, ?_⟩
  · by_cases g : f.st = 0
    · exact .inl g
    · right
      have : pn = true := by rw [← hn]; simpa using g
      rw [if_pos this, if_pos this]
      exact q
  · by_cases g : f.st < 3
    · exact .inl g
    · right
      have : pf = true := by rw [← hf]; exact decide_eq_true (by omega)
      rw [if_pos this, if_pos this]
      exact part_in (hpl (by omega))
  · intro g
    have : pn = false := by rw [← hn, g]; rfl
    rw [if_neg (by rw [this]; decide), if_neg (by rw [this]; decide)]
    exact ⟨rfl, rfl⟩
  · intro g
    have : pf = false := by rw [← hf]; exact decide_eq_false (by omega)
    rw [if_neg (by rw [this]; decide), if_neg (by rw [this]; decide)]
    exact ⟨rfl, rfl⟩
theorem narrower_all {h : HoldD} {f g : FillD} (ef : fillErr h f = 0) (hn : Within2 f g) :
    ((denS h f (volS h f)).1 ≤ (denS h g (volS h g)).1 ∧ (denS h g (volS h g)).2 ≤ (denS h f (volS h f)).2) ∧ ((heiS h f).1 ≤ (heiS h g).1 ∧ (heiS h g).2 ≤ (heiS h f).2) ∧
    ((denS h f (momS h f)).1 ≤ (denS h g (momS h g)).1 ∧ (denS h g (momS h g)).2 ≤ (denS h f (momS h f)).2) := by
  have eg := narrow_ok ef hn
  obtain ⟨⟨a1, a2⟩, ⟨b1, b2⟩, c⟩ := narrow_amt ef hn
  exact ⟨narrow_den ef eg hn (vol_amt ef) (vol_amt eg) a1 a2, c, narrow_den ef eg hn (mom_amt ef) (mom_amt eg) b1 b2⟩
theorem mass_in (n4 n5 n6 n7 : Int) : 0 ≤ n4 % 200 ∧ n4 % 200 < 200 ∧ 0 ≤ n5 % 50 ∧ n5 % 50 < 50 ∧ n4 % 200 ≤ (partS (n4 % 200) (n4 % 200 + n5 % 50) n6 n7).1 ∧ (partS (n4 % 200) (n4 % 200 + n5 % 50) n6 n7).1 ≤ (partS (n4 % 200) (n4 % 200 + n5 % 50) n6 n7).2 ∧ (partS (n4 % 200) (n4 % 200 + n5 % 50) n6 n7).2 ≤ n4 % 200 + n5 % 50 := by
  obtain ⟨a1, a2⟩ := emod_in n4 (show (0 : Int) < 200 by omega)
  obtain ⟨b1, b2⟩ := emod_in n5 (show (0 : Int) < 50 by omega)
  obtain ⟨c1, c2, c3⟩ := part_in (lo := n4 % 200) (hi := n4 % 200 + n5 % 50) (a := n6) (b := n7) (by omega)
  exact ⟨a1, a2, b1, b2, c1, c2, c3⟩
theorem mass_ok {a b c d : Int} (h : a ≤ b) (h0 : -1000000 ≤ a) (h1 : b ≤ 1000000) (h2 : 100 ≤ c ∧ c ≤ d ∧ d ≤ 2000) : massErr a b c d = 0 := by
  unfold massErr
  rw [if_pos ((vR_iff _ _).2 (by omega)), if_pos (by unfold densS; simp only [inB, decide_eq_true_eq]; omega)]
end

section
open Go.RowKit

theorem sInside_yes (a b c d : Int) (w : World) (h1 : c ≤ a) (h2 : b ≤ d) :
  Calls Tryz.prog 29 #[rv a b, rv c d] w fun e w' => e = .returned (.bool true) ∧ Below w.heap.size w w' := by
 have b1 : decide (c ≤ a) = true := decide_eq_true h1
 have b2 : decide (b ≤ d) = true := decide_eq_true h2
 clear h1 h2
 go_enter Tryz.func29, Tryz.ntmps29
 go_wp2
 go_ret
 exact ⟨rfl, below_a2 (Below.refl _ _)⟩
end

section
open Go.ChangeShapes Go.WideShapes Go.ChangeAt Go.RowKit Go.Joins Go.Deep

theorem Tryz.cellsEight : Tryz.prog.cellsOf 70 = 8 := by kernel_rfl
set_option maxRecDepth 100000 in
theorem open_eight {H : Type} {enc : TypeId × Value → H} {W : World} {base : Nat} {v : Value} {d : DataW H} {ps : List MemPlace} (hv : Value.okWide Tryz.prog W .any base 70 v) (h : DataW.Trod enc Tryz.prog W 0 (fun _ => true) true 70 v d ps) :
    ∃ x0 x1 x2 x3 x4 x5 x6 x7 : Int, v = .agg #[.int .i64 x0, .int .i64 x1, .int .i64 x2, .int .i64 x3, .int .i64 x4, .int .i64 x5, .int .i64 x6, .int .i64 x7] := by
  obtain ⟨cs, rfl, hsz⟩ := okWide_arr Tryz.underlying70 hv
  rw [Tryz.cellsEight] at hsz
  obtain ⟨l⟩ := cs
  match l, hsz with
  | [c0, c1, c2, c3, c4, c5, c6, c7], _ =>
    obtain ⟨fuel, hf⟩ := h
    obtain ⟨xs, m, _, _, _, hl, hi⟩ := DataW.trod_array Tryz.underlying70 hf
    have one : ∀ (i : Nat) (c : Value), i < 8 → ((#[c0, c1, c2, c3, c4, c5, c6, c7] : Array Value).toList.drop (i * 1)).take 1 = [c] → ∃ n : Int, c = .int .i64 n := by
      intro i c hi6 hc
      have h1 := hi i hi6
      simp only [Value.cells, Tryz.cellsInt] at h1
      rw [hc] at h1
      obtain ⟨y, hy⟩ : ∃ y, xs[i]? = some y := ⟨_, List.getElem?_eq_getElem (by omega)⟩
      rw [hy] at h1
      obtain ⟨n, e, _, _⟩ := DataW.trod_int Tryz.underlying3 h1
      simp at e
      exact ⟨n, e⟩
    obtain ⟨x0, rfl⟩ := one 0 c0 (by omega) rfl
    obtain ⟨x1, rfl⟩ := one 1 c1 (by omega) rfl
    obtain ⟨x2, rfl⟩ := one 2 c2 (by omega) rfl
    obtain ⟨x3, rfl⟩ := one 3 c3 (by omega) rfl
    obtain ⟨x4, rfl⟩ := one 4 c4 (by omega) rfl
    obtain ⟨x5, rfl⟩ := one 5 c5 (by omega) rfl
    obtain ⟨x6, rfl⟩ := one 6 c6 (by omega) rfl
    obtain ⟨x7, rfl⟩ := one 7 c7 (by omega) rfl
    exact ⟨x0, x1, x2, x3, x4, x5, x6, x7, rfl⟩
theorem Tryz.cellsTen : Tryz.prog.cellsOf 62 = 10 := by kernel_rfl
set_option maxRecDepth 100000 in
theorem open_ten {H : Type} {enc : TypeId × Value → H} {W : World} {base : Nat} {v : Value} {d : DataW H} {ps : List MemPlace} (hv : Value.okWide Tryz.prog W .any base 62 v) (h : DataW.Trod enc Tryz.prog W 0 (fun _ => true) true 62 v d ps) :
    ∃ x0 x1 x2 x3 x4 y0 y1 y2 y3 y4 : Int, v = .agg #[.int .i64 x0, .int .i64 x1, .int .i64 x2, .int .i64 x3, .int .i64 x4, .int .i64 y0, .int .i64 y1, .int .i64 y2, .int .i64 y3, .int .i64 y4] := by
  obtain ⟨cs, rfl, hsz⟩ := okWide_arr Tryz.underlying62 hv
  rw [Tryz.cellsTen] at hsz
  obtain ⟨l⟩ := cs
  match l, hsz with
  | [c0, c1, c2, c3, c4, c5, c6, c7, c8, c9], _ =>
    obtain ⟨fuel, hf⟩ := h
    obtain ⟨xs, m, _, _, _, hl, hi⟩ := DataW.trod_array Tryz.underlying62 hf
    have one : ∀ (i j : Nat) (c : Value), i < 2 → j < 5 → ((((#[c0, c1, c2, c3, c4, c5, c6, c7, c8, c9] : Array Value).toList.drop (i * 5)).take 5).drop (j * 1)).take 1 = [c] → ∃ n : Int, c = .int .i64 n := by
      intro i j c hi2 hj5 hc
      have h1 := hi i hi2
      simp only [Value.cells, Tryz.cellsFive] at h1
      obtain ⟨y, hy⟩ : ∃ y, xs[i]? = some y := ⟨_, List.getElem?_eq_getElem (by omega)⟩
      rw [hy] at h1
      obtain ⟨ys, m2, _, _, _, hl2, hi2'⟩ := DataW.trod_array Tryz.underlying53 h1
      have h2 := hi2' j hj5
      simp only [Value.cells, Tryz.cellsInt] at h2
      rw [hc] at h2
      obtain ⟨z, hz⟩ : ∃ z, ys[j]? = some z := ⟨_, List.getElem?_eq_getElem (by omega)⟩
      rw [hz] at h2
      obtain ⟨n, e, _, _⟩ := DataW.trod_int Tryz.underlying3 h2
      simp at e
      exact ⟨n, e⟩
    obtain ⟨x0, rfl⟩ := one 0 0 c0 (by omega) (by omega) rfl
    obtain ⟨x1, rfl⟩ := one 0 1 c1 (by omega) (by omega) rfl
    obtain ⟨x2, rfl⟩ := one 0 2 c2 (by omega) (by omega) rfl
    obtain ⟨x3, rfl⟩ := one 0 3 c3 (by omega) (by omega) rfl
    obtain ⟨x4, rfl⟩ := one 0 4 c4 (by omega) (by omega) rfl
    obtain ⟨y0, rfl⟩ := one 1 0 c5 (by omega) (by omega) rfl
    obtain ⟨y1, rfl⟩ := one 1 1 c6 (by omega) (by omega) rfl
    obtain ⟨y2, rfl⟩ := one 1 2 c7 (by omega) (by omega) rfl
    obtain ⟨y3, rfl⟩ := one 1 3 c8 (by omega) (by omega) rfl
    obtain ⟨y4, rfl⟩ := one 1 4 c9 (by omega) (by omega) rfl
    exact ⟨x0, x1, x2, x3, x4, y0, y1, y2, y3, y4, rfl⟩
end

section
open Go.RowKit

set_option maxRecDepth 100000 in
set_option maxHeartbeats 4000000 in
theorem holdNarrower_walk (r : RawD) (m : RawM) (x0 x1 x2 x3 x4 n0 n1 n2 n3 n4 n5 n6 n7 : Int) (w : World) (hi : RawIn w r m) :
  Calls Tryz.prog 7 #[rawV r m, .agg #[.int .i64 x0, .int .i64 x1, .int .i64 x2, .int .i64 x3, .int .i64 x4], .agg #[.int .i64 n0, .int .i64 n1, .int .i64 n2, .int .i64 n3, .int .i64 n4, .int .i64 n5, .int .i64 n6, .int .i64 n7]] w fun e w' => e = .returned (.bool true) ∧ Below w.heap.size w w' := by
 obtain ⟨h, hh⟩ : ∃ h, madeH r = h := ⟨_, rfl⟩
 have C1 := fun (W : World) (hW : Below w.heap.size w W) => smadeHold r m W (hi.below hW)
 have hS : holdS h = true := by rw [← hh]; exact made_valid r
 rw [hh] at C1
 have hle := hold_first hS
 have htv := hold_tab hS
 have hpl := tab_places htv
 have hf := madeF_ok hS hle x0 x1 x2 x3 x4
 have CF := fun (W : World) (mm : HoldM) (hm : HoldIn W h mm) => sfill_to h mm x0 x1 x2 x3 x4 W hm htv hle hpl.1 hpl.2
 obtain ⟨f, hff⟩ : ∃ f, madeF h x0 x1 x2 x3 x4 = f := ⟨_, rfl⟩
 rw [hff] at hf CF
 obtain ⟨id, fi, st, vs⟩ := r
 obtain ⟨S, sn, sc, V, vn, vc⟩ := m
 have HSV := Lib.hid hS; have HF0 := Lib.hid hf
 replace C1 := Lib.hid C1; replace CF := Lib.hid CF
 clear hi hh hle htv hpl hff hS hf
 have HE := Lib.hid (show Below w.heap.size w (((w.alloc (.cells #[.int .i64 id, .int .i64 fi, .slice S sn sc, .slice V vn vc] 24)).alloc (.cells #[.int .i64 x0, .int .i64 x1, .int .i64 x2, .int .i64 x3, .int .i64 x4] 53)).alloc (.cells #[.int .i64 n0, .int .i64 n1, .int .i64 n2, .int .i64 n3, .int .i64 n4, .int .i64 n5, .int .i64 n6, .int .i64 n7] 70)) from below_a3 (Below.refl _ _))
 have HK := Lib.hid (boxes3' w 24 53 70 #[.int .i64 id, .int .i64 fi, .slice S sn sc, .slice V vn vc] #[.int .i64 x0, .int .i64 x1, .int .i64 x2, .int .i64 x3, .int .i64 x4] #[.int .i64 n0, .int .i64 n1, .int .i64 n2, .int .i64 n3, .int .i64 n4, .int .i64 n5, .int .i64 n6, .int .i64 n7])
 go_enter Tryz.func7, Tryz.ntmps7
 go_upto_region 1 with fail
 obtain ⟨W0, hW0⟩ : ∃ W0 : World, (((w.alloc (.cells #[.int .i64 id, .int .i64 fi, .slice S sn sc, .slice V vn vc] 24)).alloc (.cells #[.int .i64 x0, .int .i64 x1, .int .i64 x2, .int .i64 x3, .int .i64 x4] 53)).alloc (.cells #[.int .i64 n0, .int .i64 n1, .int .i64 n2, .int .i64 n3, .int .i64 n4, .int .i64 n5, .int .i64 n6, .int .i64 n7] 70)) = W0 := ⟨_, rfl⟩
 rw [hW0] at HE HK ⊢
 clear hW0
 obtain ⟨G, hG⟩ : ∃ G, w.heap.size = G := ⟨_, rfl⟩
 rw [hG] at HK ⊢
 have HG := Lib.hid hG; clear hG
 have fa_ := HK.out _ (.tail _ (.tail _ (.head _)))
 have fa_0 := fa_.cell 0
 have fa_1 := fa_.cell 1
 have fa_2 := fa_.cell 2
 have fa_3 := fa_.cell 3
 simp at fa_0 fa_1 fa_2 fa_3
 clear fa_
 go_wp2_with fail
 refine (C1.out _ HE.out).mono ?_
 rintro e z1 ⟨⟨mh, rfl, hinh⟩, hq⟩
 obtain ⟨hid, al, ah, vol, mom, hei, t0, t1, u0, u1, v0, v1, h0, h1⟩ := h
 obtain ⟨A, n, c, B, mm, d, C, l, ee⟩ := mh
 obtain ⟨fh, fs, p0, p1, d0, d1⟩ := f
 have HIN := Lib.hid hinh
 have C2 : Hid (∀ W, Below z1.heap.size z1 W → Calls Tryz.prog 27 #[.agg #[.int .i64 hid, .int .i64 al, .int .i64 ah, .slice A n c, .slice B mm d, .slice C l ee, .int .i64 t0, .int .i64 t1, .int .i64 u0, .int .i64 u1, .int .i64 v0, .int .i64 v1, .int .i64 h0, .int .i64 h1], .agg #[.int .i64 x0, .int .i64 x1, .int .i64 x2, .int .i64 x3, .int .i64 x4]] W fun e w' => e = .returned (.agg #[.int .i64 fh, .int .i64 fs, .int .i64 p0, .int .i64 p1, .int .i64 d0, .int .i64 d1]) ∧ Below W.heap.size W w') := Lib.hid fun W hW => CF.out W ⟨A, n, c, B, mm, d, C, l, ee⟩ (HIN.out.below hW)
 clear hinh
 have HQ_1 := Lib.hid (below_then HE.out hq)
 have HX_1 := Lib.hid ((HK.out.on hq).new 35 #[.int .i64 hid, .int .i64 al, .int .i64 ah, .slice A n c, .slice B mm d, .slice C l ee, .int .i64 t0, .int .i64 t1, .int .i64 u0, .int .i64 u1, .int .i64 v0, .int .i64 v1, .int .i64 h0, .int .i64 h1]); have HB_1 := Lib.hid (below_alloc1 z1 (.cells #[.int .i64 hid, .int .i64 al, .int .i64 ah, .slice A n c, .slice B mm d, .slice C l ee, .int .i64 t0, .int .i64 t1, .int .i64 u0, .int .i64 u1, .int .i64 v0, .int .i64 v1, .int .i64 h0, .int .i64 h1] 35))
 clear hq HK HE fa_0 fa_1 fa_2 fa_3 C1 CF
 go_upto_region 2 with fail
 obtain ⟨V1, hW⟩ : ∃ W', z1.alloc (.cells #[.int .i64 hid, .int .i64 al, .int .i64 ah, .slice A n c, .slice B mm d, .slice C l ee, .int .i64 t0, .int .i64 t1, .int .i64 u0, .int .i64 u1, .int .i64 v0, .int .i64 v1, .int .i64 h0, .int .i64 h1] 35) = W' := ⟨_, rfl⟩
 rw [hW] at HX_1 HB_1  ⊢
 clear hW
 obtain ⟨MH, hN⟩ : ∃ n, z1.heap.size = n := ⟨_, rfl⟩
 rw [hN] at HX_1  ⊢
 clear hN
 have fa_ := HX_1.out _ (.tail _ (.tail _ (.head _)))
 have fa_0 := fa_.cell 0
 have fa_1 := fa_.cell 1
 have fa_2 := fa_.cell 2
 have fa_3 := fa_.cell 3
 have fa_4 := fa_.cell 4
 simp at fa_0 fa_1 fa_2 fa_3 fa_4
 clear fa_
 have fb_ := HX_1.out _ (.head _)
 have fb_0 := fb_.cell 0
 have fb_1 := fb_.cell 1
 have fb_2 := fb_.cell 2
 have fb_3 := fb_.cell 3
 have fb_4 := fb_.cell 4
 have fb_5 := fb_.cell 5
 have fb_6 := fb_.cell 6
 have fb_7 := fb_.cell 7
 have fb_8 := fb_.cell 8
 have fb_9 := fb_.cell 9
 have fb_10 := fb_.cell 10
 have fb_11 := fb_.cell 11
 have fb_12 := fb_.cell 12
 have fb_13 := fb_.cell 13
 simp at fb_0 fb_1 fb_2 fb_3 fb_4 fb_5 fb_6 fb_7 fb_8 fb_9 fb_10 fb_11 fb_12 fb_13
 clear fb_
 go_wp2_with fail
 refine (C2.out _ HB_1.out).mono ?_
 rintro e z2 ⟨rfl, hq⟩
 have HX_2 := Lib.hid ((HX_1.out.on hq).new 55 #[.int .i64 fh, .int .i64 fs, .int .i64 p0, .int .i64 p1, .int .i64 d0, .int .i64 d1]); have HB_2 := Lib.hid (below_then (below_then HB_1.out hq) (below_alloc1 z2 (.cells #[.int .i64 fh, .int .i64 fs, .int .i64 p0, .int .i64 p1, .int .i64 d0, .int .i64 d1] 55)))
 clear hq HX_1 HB_1 fa_0 fa_1 fa_2 fa_3 fa_4 fb_0 fb_1 fb_2 fb_3 fb_4 fb_5 fb_6 fb_7 fb_8 fb_9 fb_10 fb_11 fb_12 fb_13 C2
 go_upto_region 3 with fail
 obtain ⟨V2, hW⟩ : ∃ W', z2.alloc (.cells #[.int .i64 fh, .int .i64 fs, .int .i64 p0, .int .i64 p1, .int .i64 d0, .int .i64 d1] 55) = W' := ⟨_, rfl⟩
 rw [hW] at HX_2 HB_2  ⊢
 clear hW
 obtain ⟨MF, hN⟩ : ∃ n, z2.heap.size = n := ⟨_, rfl⟩
 rw [hN] at HX_2  ⊢
 clear hN
 have fa_ := HX_2.out _ (.head _)
 have fa_0 := fa_.cell 0
 have fa_1 := fa_.cell 1
 have fa_2 := fa_.cell 2
 have fa_3 := fa_.cell 3
 have fa_4 := fa_.cell 4
 have fa_5 := fa_.cell 5
 simp at fa_0 fa_1 fa_2 fa_3 fa_4 fa_5
 clear fa_
 go_upto_region 4 with fail
 have HX_3 := Lib.hid (HX_2.out.new 55 #[.int .i64 fh, .int .i64 fs, .int .i64 p0, .int .i64 p1, .int .i64 d0, .int .i64 d1]); have HB_3 := Lib.hid (below_then HB_2.out (below_alloc1 V2 (.cells #[.int .i64 fh, .int .i64 fs, .int .i64 p0, .int .i64 p1, .int .i64 d0, .int .i64 d1] 55)))
 have HFAR_MG := Lib.hid (boxes_lt HX_2.out); have HGE_MG := Lib.hid HB_2.out.size
 clear HX_2 HB_2 fa_0 fa_1 fa_2 fa_3 fa_4 fa_5
 obtain ⟨V3, hW⟩ : ∃ W', V2.alloc (.cells #[.int .i64 fh, .int .i64 fs, .int .i64 p0, .int .i64 p1, .int .i64 d0, .int .i64 d1] 55) = W' := ⟨_, rfl⟩
 rw [hW] at HX_3 HB_3 ⊢
 clear hW
 obtain ⟨MG, hN⟩ : ∃ n, V2.heap.size = n := ⟨_, rfl⟩
 rw [hN] at HX_3 HFAR_MG HGE_MG ⊢
 clear hN
 obtain ⟨pn, hpn⟩ : ∃ z, (fs != 0) = z := ⟨_, rfl⟩
 obtain ⟨pf, hpf⟩ : ∃ z, decide (3 ≤ fs ∧ fs ≤ 5) = z := ⟨_, rfl⟩
 obtain ⟨D0, e0⟩ : ∃ z, (if pn = true then (partS d0 d1 n0 n1).1 else d0) = z := ⟨_, rfl⟩
 obtain ⟨D1, e1⟩ : ∃ z, (if pn = true then (partS d0 d1 n0 n1).2 else d1) = z := ⟨_, rfl⟩
 obtain ⟨P0, e2⟩ : ∃ z, (if pf = true then (partS p0 p1 n2 n3).1 else p0) = z := ⟨_, rfl⟩
 obtain ⟨P1, e3⟩ : ∃ z, (if pf = true then (partS p0 p1 n2 n3).2 else p1) = z := ⟨_, rfl⟩
 have hN := narrower_in HF0.out n0 n1 n2 n3 hpn hpf e0 e1 e2 e3
 dsimp only at hN
 have hdi := fill_dens HF0.out
 dsimp only at hdi
 have CP1 := Lib.hid (fun (W : World) => mpart_to d0 d1 n0 n1 W hdi.2.1 (by omega) (by omega))
 have CP2 := Lib.hid (fun (W : World) (g : pf = true) => mpart_to p0 p1 n2 n3 W (by
  have pl := fill_place HF0.out (show 3 ≤ fs by rw [← hpf] at g; have := of_decide_eq_true g; omega)
  simp only [inB, decide_eq_true_eq] at pl
  omega) (by
  have pl := fill_place HF0.out (show 3 ≤ fs by rw [← hpf] at g; have := of_decide_eq_true g; omega)
  have hp := tab_places (hold_tab HSV.out)
  simp only [inB, decide_eq_true_eq] at pl
  dsimp only at pl hp
  omega) (by
  have pl := fill_place HF0.out (show 3 ≤ fs by rw [← hpf] at g; have := of_decide_eq_true g; omega)
  have hp := tab_places (hold_tab HSV.out)
  simp only [inB, decide_eq_true_eq] at pl
  dsimp only at pl hp
  omega))
 have CFR := Lib.hid (fun (W : World) => sFree_to fs pf W hpf)
 have HN := Lib.hid hN; have HPN := Lib.hid hpn; have HPF := Lib.hid hpf; have HE01 := Lib.hid (And.intro e0 e1); have HE23 := Lib.hid (And.intro e2 e3)
 clear hN hdi hpf e0 e1 e2 e3
 have fa_ := HX_3.out _ (.tail _ (.head _))
 have fa_1 := fa_.cell 1
 simp at fa_1
 clear fa_
 go_upto_if 39 with fail
 clear fa_1 hpn HPN
 go_cut [] (fun wx => Boxes wx [(MG, 55, #[.int .i64 fh, .int .i64 fs, .int .i64 p0, .int .i64 p1, .int .i64 D0, .int .i64 D1]), (MF, 55, #[.int .i64 fh, .int .i64 fs, .int .i64 p0, .int .i64 p1, .int .i64 d0, .int .i64 d1]), (MH, 35, #[.int .i64 hid, .int .i64 al, .int .i64 ah, .slice A n c, .slice B mm d, .slice C l ee, .int .i64 t0, .int .i64 t1, .int .i64 u0, .int .i64 u1, .int .i64 v0, .int .i64 v1, .int .i64 h0, .int .i64 h1]), ((G + 1 + 1), 70, #[.int .i64 n0, .int .i64 n1, .int .i64 n2, .int .i64 n3, .int .i64 n4, .int .i64 n5, .int .i64 n6, .int .i64 n7]), ((G + 1), 53, #[.int .i64 x0, .int .i64 x1, .int .i64 x2, .int .i64 x3, .int .i64 x4]), (G, 24, #[.int .i64 id, .int .i64 fi, .slice S sn sc, .slice V vn vc])] ∧ Below z1.heap.size z1 wx)
 case first =>
  as_aux_lemma =>
   obtain ⟨e0, e1⟩ := HE01.out
   cases pn
   ·rw [if_neg (by decide)] at e0 e1
    subst e0 e1
    go_wp2_with fail
    go_meet
    exact ⟨HX_3.out, HB_3.out⟩
   rw [if_pos rfl] at e0 e1
   have fa_ := HX_3.out _ (.tail _ (.tail _ (.tail _ (.head _))))
   have fa_0 := fa_.cell 0
   have fa_1 := fa_.cell 1
   simp at fa_0 fa_1
   clear fa_
   have fb_ := HX_3.out _ (.tail _ (.head _))
   have fb_4 := fb_.cell 4
   have fb_5 := fb_.cell 5
   simp at fb_4 fb_5
   clear fb_
   go_wp2_with fail
   refine (CP1.out _).mono ?_
   rintro e zq ⟨rfl, hq⟩
   rw [e0, e1]
   have HX_q := Lib.hid (HX_3.out.on hq); have HB_q := Lib.hid (below_then HB_3.out hq)
   clear hq e0 e1 fa_0 fa_1 fb_4 fb_5
   have m_ := HX_q.out _ (.head _)
   have m_4 := m_.cell 4
   have m_f4 := m_.frozen 4
   have m_5 := m_.cell 5
   have m_f5 := m_.frozen 5
   simp at m_4 m_f4 m_5 m_f5
   clear m_
   go_wp2_with fail
   go_meet
   have HXa : Hid (Boxes (zq.setCell ⟨MG, 4, none⟩ (.int .i64 D0)) [(MG, 55, #[.int .i64 fh, .int .i64 fs, .int .i64 p0, .int .i64 p1, .int .i64 D0, .int .i64 d1]), (MF, 55, #[.int .i64 fh, .int .i64 fs, .int .i64 p0, .int .i64 p1, .int .i64 d0, .int .i64 d1]), (MH, 35, #[.int .i64 hid, .int .i64 al, .int .i64 ah, .slice A n c, .slice B mm d, .slice C l ee, .int .i64 t0, .int .i64 t1, .int .i64 u0, .int .i64 u1, .int .i64 v0, .int .i64 v1, .int .i64 h0, .int .i64 h1]), ((G + 1 + 1), 70, #[.int .i64 n0, .int .i64 n1, .int .i64 n2, .int .i64 n3, .int .i64 n4, .int .i64 n5, .int .i64 n6, .int .i64 n7]), ((G + 1), 53, #[.int .i64 x0, .int .i64 x1, .int .i64 x2, .int .i64 x3, .int .i64 x4]), (G, 24, #[.int .i64 id, .int .i64 fi, .slice S sn sc, .slice V vn vc])]) := Lib.hid (HX_q.out.set1 HFAR_MG.out 4 (.int .i64 D0) _ rfl)
   exact ⟨HXa.out.set1 HFAR_MG.out 5 (.int .i64 D1) _ rfl, (HB_q.out.setCell (p := ⟨MG, 4, none⟩) (by have := HGE_MG.out; simp; omega) (.int .i64 D0)).setCell (p := ⟨MG, 5, none⟩) (by have := HGE_MG.out; simp; omega) (.int .i64 D1)⟩
 case rest =>
  obtain ⟨hX, hB⟩ := hcut
  have HX_4 := Lib.hid hX; have HB_4 := Lib.hid hB
  clear hX hB HX_3 HB_3 CP1 HE01
  rename World => zr4
  have fa_ := HX_4.out _ (.tail _ (.head _))
  have fa_1 := fa_.cell 1
  simp at fa_1
  clear fa_
  go_wp2_with fail
  refine (CFR.out _).mono ?_
  rintro e z5 ⟨rfl, hq⟩
  have HX_5 := Lib.hid (HX_4.out.on hq); have HB_5 := Lib.hid (below_then HB_4.out hq)
  clear hq HX_4 HB_4 fa_1 CFR
  go_upto_if 50 with fail
  go_cut [] (fun wx => Boxes wx [(MG, 55, #[.int .i64 fh, .int .i64 fs, .int .i64 P0, .int .i64 P1, .int .i64 D0, .int .i64 D1]), (MF, 55, #[.int .i64 fh, .int .i64 fs, .int .i64 p0, .int .i64 p1, .int .i64 d0, .int .i64 d1]), (MH, 35, #[.int .i64 hid, .int .i64 al, .int .i64 ah, .slice A n c, .slice B mm d, .slice C l ee, .int .i64 t0, .int .i64 t1, .int .i64 u0, .int .i64 u1, .int .i64 v0, .int .i64 v1, .int .i64 h0, .int .i64 h1]), ((G + 1 + 1), 70, #[.int .i64 n0, .int .i64 n1, .int .i64 n2, .int .i64 n3, .int .i64 n4, .int .i64 n5, .int .i64 n6, .int .i64 n7]), ((G + 1), 53, #[.int .i64 x0, .int .i64 x1, .int .i64 x2, .int .i64 x3, .int .i64 x4]), (G, 24, #[.int .i64 id, .int .i64 fi, .slice S sn sc, .slice V vn vc])] ∧ Below z1.heap.size z1 wx)
  case first =>
   as_aux_lemma =>
    obtain ⟨e2, e3⟩ := HE23.out
    cases pf
    ·rw [if_neg (by decide)] at e2 e3
     subst e2 e3
     go_wp2_with fail
     go_meet
     exact ⟨HX_5.out, HB_5.out⟩
    rw [if_pos rfl] at e2 e3
    have fa_ := HX_5.out _ (.tail _ (.tail _ (.tail _ (.head _))))
    have fa_2 := fa_.cell 2
    have fa_3 := fa_.cell 3
    simp at fa_2 fa_3
    clear fa_
    have fb_ := HX_5.out _ (.tail _ (.head _))
    have fb_2 := fb_.cell 2
    have fb_3 := fb_.cell 3
    simp at fb_2 fb_3
    clear fb_
    go_wp2_with fail
    refine (CP2.out _ (by trivial)).mono ?_
    rintro e zq ⟨rfl, hq⟩
    rw [e2, e3]
    have HX_q := Lib.hid (HX_5.out.on hq); have HB_q := Lib.hid (below_then HB_5.out hq)
    clear hq e2 e3 fa_2 fa_3 fb_2 fb_3
    have m_ := HX_q.out _ (.head _)
    have m_2 := m_.cell 2
    have m_f2 := m_.frozen 2
    have m_3 := m_.cell 3
    have m_f3 := m_.frozen 3
    simp at m_2 m_f2 m_3 m_f3
    clear m_
    go_wp2_with fail
    go_meet
    have HXa : Hid (Boxes (zq.setCell ⟨MG, 2, none⟩ (.int .i64 P0)) [(MG, 55, #[.int .i64 fh, .int .i64 fs, .int .i64 P0, .int .i64 p1, .int .i64 D0, .int .i64 D1]), (MF, 55, #[.int .i64 fh, .int .i64 fs, .int .i64 p0, .int .i64 p1, .int .i64 d0, .int .i64 d1]), (MH, 35, #[.int .i64 hid, .int .i64 al, .int .i64 ah, .slice A n c, .slice B mm d, .slice C l ee, .int .i64 t0, .int .i64 t1, .int .i64 u0, .int .i64 u1, .int .i64 v0, .int .i64 v1, .int .i64 h0, .int .i64 h1]), ((G + 1 + 1), 70, #[.int .i64 n0, .int .i64 n1, .int .i64 n2, .int .i64 n3, .int .i64 n4, .int .i64 n5, .int .i64 n6, .int .i64 n7]), ((G + 1), 53, #[.int .i64 x0, .int .i64 x1, .int .i64 x2, .int .i64 x3, .int .i64 x4]), (G, 24, #[.int .i64 id, .int .i64 fi, .slice S sn sc, .slice V vn vc])]) := Lib.hid (HX_q.out.set1 HFAR_MG.out 2 (.int .i64 P0) _ rfl)
    exact ⟨HXa.out.set1 HFAR_MG.out 3 (.int .i64 P1) _ rfl, (HB_q.out.setCell (p := ⟨MG, 2, none⟩) (by have := HGE_MG.out; simp; omega) (.int .i64 P0)).setCell (p := ⟨MG, 3, none⟩) (by have := HGE_MG.out; simp; omega) (.int .i64 P1)⟩
  case rest =>
   obtain ⟨hX, hB⟩ := hcut
   have HX_6 := Lib.hid hX; have HB_6 := Lib.hid hB
   clear hX hB HX_5 HB_5 CP2 HE23 HPF HFAR_MG HGE_MG
   rename World => zr6
   as_aux_lemma =>
    have ef := HF0.out
    have eg := narrow_ok ef HN.out
    obtain ⟨i1, i2, i3⟩ := narrower_all ef HN.out
    have CW1 : Hid (∀ W, Below z1.heap.size z1 W → Calls Tryz.prog 37 #[.agg #[.int .i64 hid, .int .i64 al, .int .i64 ah, .slice A n c, .slice B mm d, .slice C l ee, .int .i64 t0, .int .i64 t1, .int .i64 u0, .int .i64 u1, .int .i64 v0, .int .i64 v1, .int .i64 h0, .int .i64 h1], .agg #[.int .i64 fh, .int .i64 fs, .int .i64 p0, .int .i64 p1, .int .i64 d0, .int .i64 d1]] W fun e w' => e = .returned (wt (denS ⟨hid, al, ah, vol, mom, hei, t0, t1, u0, u1, v0, v1, h0, h1⟩ ⟨fh, fs, p0, p1, d0, d1⟩ (volS ⟨hid, al, ah, vol, mom, hei, t0, t1, u0, u1, v0, v1, h0, h1⟩ ⟨fh, fs, p0, p1, d0, d1⟩)).1 (denS ⟨hid, al, ah, vol, mom, hei, t0, t1, u0, u1, v0, v1, h0, h1⟩ ⟨fh, fs, p0, p1, d0, d1⟩ (volS ⟨hid, al, ah, vol, mom, hei, t0, t1, u0, u1, v0, v1, h0, h1⟩ ⟨fh, fs, p0, p1, d0, d1⟩)).2 al ah (heiS ⟨hid, al, ah, vol, mom, hei, t0, t1, u0, u1, v0, v1, h0, h1⟩ ⟨fh, fs, p0, p1, d0, d1⟩).1 (heiS ⟨hid, al, ah, vol, mom, hei, t0, t1, u0, u1, v0, v1, h0, h1⟩ ⟨fh, fs, p0, p1, d0, d1⟩).2 0) ∧ Below W.heap.size W w') := Lib.hid fun W hW => by
     have q := hWeight_any ⟨hid, al, ah, vol, mom, hei, t0, t1, u0, u1, v0, v1, h0, h1⟩ ⟨A, n, c, B, mm, d, C, l, ee⟩ ⟨fh, fs, p0, p1, d0, d1⟩ W (HIN.out.below hW)
     unfold weightV at q
     rw [if_pos ef] at q
     exact q
    have CW2 : Hid (∀ W, Below z1.heap.size z1 W → Calls Tryz.prog 37 #[.agg #[.int .i64 hid, .int .i64 al, .int .i64 ah, .slice A n c, .slice B mm d, .slice C l ee, .int .i64 t0, .int .i64 t1, .int .i64 u0, .int .i64 u1, .int .i64 v0, .int .i64 v1, .int .i64 h0, .int .i64 h1], .agg #[.int .i64 fh, .int .i64 fs, .int .i64 P0, .int .i64 P1, .int .i64 D0, .int .i64 D1]] W fun e w' => e = .returned (wt (denS ⟨hid, al, ah, vol, mom, hei, t0, t1, u0, u1, v0, v1, h0, h1⟩ ⟨fh, fs, P0, P1, D0, D1⟩ (volS ⟨hid, al, ah, vol, mom, hei, t0, t1, u0, u1, v0, v1, h0, h1⟩ ⟨fh, fs, P0, P1, D0, D1⟩)).1 (denS ⟨hid, al, ah, vol, mom, hei, t0, t1, u0, u1, v0, v1, h0, h1⟩ ⟨fh, fs, P0, P1, D0, D1⟩ (volS ⟨hid, al, ah, vol, mom, hei, t0, t1, u0, u1, v0, v1, h0, h1⟩ ⟨fh, fs, P0, P1, D0, D1⟩)).2 al ah (heiS ⟨hid, al, ah, vol, mom, hei, t0, t1, u0, u1, v0, v1, h0, h1⟩ ⟨fh, fs, P0, P1, D0, D1⟩).1 (heiS ⟨hid, al, ah, vol, mom, hei, t0, t1, u0, u1, v0, v1, h0, h1⟩ ⟨fh, fs, P0, P1, D0, D1⟩).2 0) ∧ Below W.heap.size W w') := Lib.hid fun W hW => by
     have q := hWeight_any ⟨hid, al, ah, vol, mom, hei, t0, t1, u0, u1, v0, v1, h0, h1⟩ ⟨A, n, c, B, mm, d, C, l, ee⟩ ⟨fh, fs, P0, P1, D0, D1⟩ W (HIN.out.below hW)
     unfold weightV at q
     rw [if_pos eg] at q
     exact q
    have CH1 : Hid (∀ W, Below z1.heap.size z1 W → Calls Tryz.prog 38 #[.agg #[.int .i64 hid, .int .i64 al, .int .i64 ah, .slice A n c, .slice B mm d, .slice C l ee, .int .i64 t0, .int .i64 t1, .int .i64 u0, .int .i64 u1, .int .i64 v0, .int .i64 v1, .int .i64 h0, .int .i64 h1], .agg #[.int .i64 fh, .int .i64 fs, .int .i64 p0, .int .i64 p1, .int .i64 d0, .int .i64 d1]] W fun e w' => e = .returned (.tuple #[rv (denS ⟨hid, al, ah, vol, mom, hei, t0, t1, u0, u1, v0, v1, h0, h1⟩ ⟨fh, fs, p0, p1, d0, d1⟩ (momS ⟨hid, al, ah, vol, mom, hei, t0, t1, u0, u1, v0, v1, h0, h1⟩ ⟨fh, fs, p0, p1, d0, d1⟩)).1 (denS ⟨hid, al, ah, vol, mom, hei, t0, t1, u0, u1, v0, v1, h0, h1⟩ ⟨fh, fs, p0, p1, d0, d1⟩ (momS ⟨hid, al, ah, vol, mom, hei, t0, t1, u0, u1, v0, v1, h0, h1⟩ ⟨fh, fs, p0, p1, d0, d1⟩)).2, .int .i64 0]) ∧ Below W.heap.size W w') := Lib.hid fun W hW => by
     have q := hHeel_any ⟨hid, al, ah, vol, mom, hei, t0, t1, u0, u1, v0, v1, h0, h1⟩ ⟨A, n, c, B, mm, d, C, l, ee⟩ ⟨fh, fs, p0, p1, d0, d1⟩ W (HIN.out.below hW)
     rw [tell_okY ef] at q
     exact q
    have CH2 : Hid (∀ W, Below z1.heap.size z1 W → Calls Tryz.prog 38 #[.agg #[.int .i64 hid, .int .i64 al, .int .i64 ah, .slice A n c, .slice B mm d, .slice C l ee, .int .i64 t0, .int .i64 t1, .int .i64 u0, .int .i64 u1, .int .i64 v0, .int .i64 v1, .int .i64 h0, .int .i64 h1], .agg #[.int .i64 fh, .int .i64 fs, .int .i64 P0, .int .i64 P1, .int .i64 D0, .int .i64 D1]] W fun e w' => e = .returned (.tuple #[rv (denS ⟨hid, al, ah, vol, mom, hei, t0, t1, u0, u1, v0, v1, h0, h1⟩ ⟨fh, fs, P0, P1, D0, D1⟩ (momS ⟨hid, al, ah, vol, mom, hei, t0, t1, u0, u1, v0, v1, h0, h1⟩ ⟨fh, fs, P0, P1, D0, D1⟩)).1 (denS ⟨hid, al, ah, vol, mom, hei, t0, t1, u0, u1, v0, v1, h0, h1⟩ ⟨fh, fs, P0, P1, D0, D1⟩ (momS ⟨hid, al, ah, vol, mom, hei, t0, t1, u0, u1, v0, v1, h0, h1⟩ ⟨fh, fs, P0, P1, D0, D1⟩)).2, .int .i64 0]) ∧ Below W.heap.size W w') := Lib.hid fun W hW => by
     have q := hHeel_any ⟨hid, al, ah, vol, mom, hei, t0, t1, u0, u1, v0, v1, h0, h1⟩ ⟨A, n, c, B, mm, d, C, l, ee⟩ ⟨fh, fs, P0, P1, D0, D1⟩ W (HIN.out.below hW)
     rw [tell_okY eg] at q
     exact q
    obtain ⟨⟨a0, a1⟩, ha⟩ : ∃ z, denS ⟨hid, al, ah, vol, mom, hei, t0, t1, u0, u1, v0, v1, h0, h1⟩ ⟨fh, fs, p0, p1, d0, d1⟩ (volS ⟨hid, al, ah, vol, mom, hei, t0, t1, u0, u1, v0, v1, h0, h1⟩ ⟨fh, fs, p0, p1, d0, d1⟩) = z := ⟨_, rfl⟩
    obtain ⟨⟨b0, b1⟩, hb⟩ : ∃ z, denS ⟨hid, al, ah, vol, mom, hei, t0, t1, u0, u1, v0, v1, h0, h1⟩ ⟨fh, fs, P0, P1, D0, D1⟩ (volS ⟨hid, al, ah, vol, mom, hei, t0, t1, u0, u1, v0, v1, h0, h1⟩ ⟨fh, fs, P0, P1, D0, D1⟩) = z := ⟨_, rfl⟩
    obtain ⟨⟨a2, a3⟩, ha2⟩ : ∃ z, heiS ⟨hid, al, ah, vol, mom, hei, t0, t1, u0, u1, v0, v1, h0, h1⟩ ⟨fh, fs, p0, p1, d0, d1⟩ = z := ⟨_, rfl⟩
    obtain ⟨⟨b2, b3⟩, hb2⟩ : ∃ z, heiS ⟨hid, al, ah, vol, mom, hei, t0, t1, u0, u1, v0, v1, h0, h1⟩ ⟨fh, fs, P0, P1, D0, D1⟩ = z := ⟨_, rfl⟩
    obtain ⟨⟨a4, a5⟩, ha4⟩ : ∃ z, denS ⟨hid, al, ah, vol, mom, hei, t0, t1, u0, u1, v0, v1, h0, h1⟩ ⟨fh, fs, p0, p1, d0, d1⟩ (momS ⟨hid, al, ah, vol, mom, hei, t0, t1, u0, u1, v0, v1, h0, h1⟩ ⟨fh, fs, p0, p1, d0, d1⟩) = z := ⟨_, rfl⟩
    obtain ⟨⟨b4, b5⟩, hb4⟩ : ∃ z, denS ⟨hid, al, ah, vol, mom, hei, t0, t1, u0, u1, v0, v1, h0, h1⟩ ⟨fh, fs, P0, P1, D0, D1⟩ (momS ⟨hid, al, ah, vol, mom, hei, t0, t1, u0, u1, v0, v1, h0, h1⟩ ⟨fh, fs, P0, P1, D0, D1⟩) = z := ⟨_, rfl⟩
    rw [ha, ha2] at CW1
    rw [hb, hb2] at CW2
    rw [ha4] at CH1
    rw [hb4] at CH2
    rw [ha, hb] at i1
    rw [ha2, hb2] at i2
    rw [ha4, hb4] at i3
    dsimp only [wt] at CW1 CW2 CH1 CH2 i1 i2 i3
    have CI1 := Lib.hid (fun (W : World) => sInside_yes b0 b1 a0 a1 W i1.1 i1.2)
    have CI2 := Lib.hid (fun (W : World) => sInside_yes b2 b3 a2 a3 W i2.1 i2.2)
    have CI3 := Lib.hid (fun (W : World) => sInside_yes b4 b5 a4 a5 W i3.1 i3.2)
    clear i1 i2 i3 ha hb ha2 hb2 ha4 hb4 ef eg HSV
    go_upto_region 8 with fail
    have fa_ := HX_6.out _ (.tail _ (.head _))
    have fa_0 := fa_.cell 0
    have fa_1 := fa_.cell 1
    have fa_2 := fa_.cell 2
    have fa_3 := fa_.cell 3
    have fa_4 := fa_.cell 4
    have fa_5 := fa_.cell 5
    simp at fa_0 fa_1 fa_2 fa_3 fa_4 fa_5
    clear fa_
    have fb_ := HX_6.out _ (.tail _ (.tail _ (.head _)))
    have fb_0 := fb_.cell 0
    have fb_1 := fb_.cell 1
    have fb_2 := fb_.cell 2
    have fb_3 := fb_.cell 3
    have fb_4 := fb_.cell 4
    have fb_5 := fb_.cell 5
    have fb_6 := fb_.cell 6
    have fb_7 := fb_.cell 7
    have fb_8 := fb_.cell 8
    have fb_9 := fb_.cell 9
    have fb_10 := fb_.cell 10
    have fb_11 := fb_.cell 11
    have fb_12 := fb_.cell 12
    have fb_13 := fb_.cell 13
    simp at fb_0 fb_1 fb_2 fb_3 fb_4 fb_5 fb_6 fb_7 fb_8 fb_9 fb_10 fb_11 fb_12 fb_13
    clear fb_
    go_wp2_with fail
    refine (CW1.out _ HB_6.out).mono ?_
    rintro e z7 ⟨rfl, hq⟩
    have HX_7 := Lib.hid ((HX_6.out.on hq).new 74 #[.int .i64 a0, .int .i64 a1, .int .i64 al, .int .i64 ah, .int .i64 a2, .int .i64 a3]); have HB_7 := Lib.hid (below_then (below_then HB_6.out hq) (below_alloc1 z7 (.cells #[.int .i64 a0, .int .i64 a1, .int .i64 al, .int .i64 ah, .int .i64 a2, .int .i64 a3] 74)))
    clear hq HX_6 HB_6 fa_0 fa_1 fa_2 fa_3 fa_4 fa_5 fb_0 fb_1 fb_2 fb_3 fb_4 fb_5 fb_6 fb_7 fb_8 fb_9 fb_10 fb_11 fb_12 fb_13 CW1
    go_upto_region 9 with fail
    obtain ⟨V7, hW⟩ : ∃ W', z7.alloc (.cells #[.int .i64 a0, .int .i64 a1, .int .i64 al, .int .i64 ah, .int .i64 a2, .int .i64 a3] 74) = W' := ⟨_, rfl⟩
    rw [hW] at HX_7 HB_7  ⊢
    clear hW
    obtain ⟨MA, hN⟩ : ∃ n, z7.heap.size = n := ⟨_, rfl⟩
    rw [hN] at HX_7  ⊢
    clear hN
    have fa_ := HX_7.out _ (.tail _ (.head _))
    have fa_0 := fa_.cell 0
    have fa_1 := fa_.cell 1
    have fa_2 := fa_.cell 2
    have fa_3 := fa_.cell 3
    have fa_4 := fa_.cell 4
    have fa_5 := fa_.cell 5
    simp at fa_0 fa_1 fa_2 fa_3 fa_4 fa_5
    clear fa_
    have fb_ := HX_7.out _ (.tail _ (.tail _ (.tail _ (.head _))))
    have fb_0 := fb_.cell 0
    have fb_1 := fb_.cell 1
    have fb_2 := fb_.cell 2
    have fb_3 := fb_.cell 3
    have fb_4 := fb_.cell 4
    have fb_5 := fb_.cell 5
    have fb_6 := fb_.cell 6
    have fb_7 := fb_.cell 7
    have fb_8 := fb_.cell 8
    have fb_9 := fb_.cell 9
    have fb_10 := fb_.cell 10
    have fb_11 := fb_.cell 11
    have fb_12 := fb_.cell 12
    have fb_13 := fb_.cell 13
    simp at fb_0 fb_1 fb_2 fb_3 fb_4 fb_5 fb_6 fb_7 fb_8 fb_9 fb_10 fb_11 fb_12 fb_13
    clear fb_
    go_wp2_with fail
    refine (CW2.out _ HB_7.out).mono ?_
    rintro e z8 ⟨rfl, hq⟩
    have HX_8 := Lib.hid ((HX_7.out.on hq).new 74 #[.int .i64 b0, .int .i64 b1, .int .i64 al, .int .i64 ah, .int .i64 b2, .int .i64 b3]); have HB_8 := Lib.hid (below_then (below_then HB_7.out hq) (below_alloc1 z8 (.cells #[.int .i64 b0, .int .i64 b1, .int .i64 al, .int .i64 ah, .int .i64 b2, .int .i64 b3] 74)))
    clear hq HX_7 HB_7 fa_0 fa_1 fa_2 fa_3 fa_4 fa_5 fb_0 fb_1 fb_2 fb_3 fb_4 fb_5 fb_6 fb_7 fb_8 fb_9 fb_10 fb_11 fb_12 fb_13 CW2
    go_upto_region 10 with fail
    obtain ⟨V8, hW⟩ : ∃ W', z8.alloc (.cells #[.int .i64 b0, .int .i64 b1, .int .i64 al, .int .i64 ah, .int .i64 b2, .int .i64 b3] 74) = W' := ⟨_, rfl⟩
    rw [hW] at HX_8 HB_8  ⊢
    clear hW
    obtain ⟨MB, hN⟩ : ∃ n, z8.heap.size = n := ⟨_, rfl⟩
    rw [hN] at HX_8  ⊢
    clear hN
    as_aux_lemma =>
     have fa_ := HX_8.out _ (.tail _ (.tail _ (.tail _ (.head _))))
     have fa_0 := fa_.cell 0
     have fa_1 := fa_.cell 1
     have fa_2 := fa_.cell 2
     have fa_3 := fa_.cell 3
     have fa_4 := fa_.cell 4
     have fa_5 := fa_.cell 5
     simp at fa_0 fa_1 fa_2 fa_3 fa_4 fa_5
     clear fa_
     have fb_ := HX_8.out _ (.tail _ (.tail _ (.tail _ (.tail _ (.head _)))))
     have fb_0 := fb_.cell 0
     have fb_1 := fb_.cell 1
     have fb_2 := fb_.cell 2
     have fb_3 := fb_.cell 3
     have fb_4 := fb_.cell 4
     have fb_5 := fb_.cell 5
     have fb_6 := fb_.cell 6
     have fb_7 := fb_.cell 7
     have fb_8 := fb_.cell 8
     have fb_9 := fb_.cell 9
     have fb_10 := fb_.cell 10
     have fb_11 := fb_.cell 11
     have fb_12 := fb_.cell 12
     have fb_13 := fb_.cell 13
     simp at fb_0 fb_1 fb_2 fb_3 fb_4 fb_5 fb_6 fb_7 fb_8 fb_9 fb_10 fb_11 fb_12 fb_13
     clear fb_
     go_wp2_with fail
     refine (CH1.out _ HB_8.out).mono ?_
     rintro e z9 ⟨rfl, hq⟩
     have HX_9 := Lib.hid ((HX_8.out.on hq).new 30 #[.int .i64 a4, .int .i64 a5]); have HB_9 := Lib.hid (below_then (below_then HB_8.out hq) (below_alloc1 z9 (.cells #[.int .i64 a4, .int .i64 a5] 30)))
     clear hq HX_8 HB_8 fa_0 fa_1 fa_2 fa_3 fa_4 fa_5 fb_0 fb_1 fb_2 fb_3 fb_4 fb_5 fb_6 fb_7 fb_8 fb_9 fb_10 fb_11 fb_12 fb_13 CH1
     go_upto_region 11 with fail
     obtain ⟨V9, hW⟩ : ∃ W', z9.alloc (.cells #[.int .i64 a4, .int .i64 a5] 30) = W' := ⟨_, rfl⟩
     rw [hW] at HX_9 HB_9  ⊢
     clear hW
     obtain ⟨MC, hN⟩ : ∃ n, z9.heap.size = n := ⟨_, rfl⟩
     rw [hN] at HX_9  ⊢
     clear hN
     have fa_ := HX_9.out _ (.tail _ (.tail _ (.tail _ (.head _))))
     have fa_0 := fa_.cell 0
     have fa_1 := fa_.cell 1
     have fa_2 := fa_.cell 2
     have fa_3 := fa_.cell 3
     have fa_4 := fa_.cell 4
     have fa_5 := fa_.cell 5
     simp at fa_0 fa_1 fa_2 fa_3 fa_4 fa_5
     clear fa_
     have fb_ := HX_9.out _ (.tail _ (.tail _ (.tail _ (.tail _ (.tail _ (.head _))))))
     have fb_0 := fb_.cell 0
     have fb_1 := fb_.cell 1
     have fb_2 := fb_.cell 2
     have fb_3 := fb_.cell 3
     have fb_4 := fb_.cell 4
     have fb_5 := fb_.cell 5
     have fb_6 := fb_.cell 6
     have fb_7 := fb_.cell 7
     have fb_8 := fb_.cell 8
     have fb_9 := fb_.cell 9
     have fb_10 := fb_.cell 10
     have fb_11 := fb_.cell 11
     have fb_12 := fb_.cell 12
     have fb_13 := fb_.cell 13
     simp at fb_0 fb_1 fb_2 fb_3 fb_4 fb_5 fb_6 fb_7 fb_8 fb_9 fb_10 fb_11 fb_12 fb_13
     clear fb_
     go_wp2_with fail
     refine (CH2.out _ HB_9.out).mono ?_
     rintro e z10 ⟨rfl, hq⟩
     have HX_10 := Lib.hid ((HX_9.out.on hq).new 30 #[.int .i64 b4, .int .i64 b5]); have HB_10 := Lib.hid (below_then (below_then HB_9.out hq) (below_alloc1 z10 (.cells #[.int .i64 b4, .int .i64 b5] 30)))
     clear hq HX_9 HB_9 fa_0 fa_1 fa_2 fa_3 fa_4 fa_5 fb_0 fb_1 fb_2 fb_3 fb_4 fb_5 fb_6 fb_7 fb_8 fb_9 fb_10 fb_11 fb_12 fb_13 CH2
     go_upto_region 12 with fail
     obtain ⟨V10, hW⟩ : ∃ W', z10.alloc (.cells #[.int .i64 b4, .int .i64 b5] 30) = W' := ⟨_, rfl⟩
     rw [hW] at HX_10 HB_10  ⊢
     clear hW
     obtain ⟨MD, hN⟩ : ∃ n, z10.heap.size = n := ⟨_, rfl⟩
     rw [hN] at HX_10  ⊢
     clear hN
     have fa_ := HX_10.out _ (.tail _ (.tail _ (.tail _ (.head _))))
     have fa_0 := fa_.cell 0
     have fa_1 := fa_.cell 1
     simp at fa_0 fa_1
     clear fa_
     have fb_ := HX_10.out _ (.tail _ (.tail _ (.head _)))
     have fb_0 := fb_.cell 0
     have fb_1 := fb_.cell 1
     simp at fb_0 fb_1
     clear fb_
     go_wp2_with fail
     refine (CI1.out _).mono ?_
     rintro e z11 ⟨rfl, hq⟩
     have HX_11 := Lib.hid (HX_10.out.on hq); have HB_11 := Lib.hid (below_then HB_10.out hq)
     clear hq HX_10 HB_10 CI1 fa_0 fa_1 fb_0 fb_1
     have fa_ := HX_11.out _ (.tail _ (.tail _ (.tail _ (.head _))))
     have fa_4 := fa_.cell 4
     have fa_5 := fa_.cell 5
     simp at fa_4 fa_5
     clear fa_
     have fb_ := HX_11.out _ (.tail _ (.tail _ (.head _)))
     have fb_4 := fb_.cell 4
     have fb_5 := fb_.cell 5
     simp at fb_4 fb_5
     clear fb_
     go_wp2_with fail
     refine (CI2.out _).mono ?_
     rintro e z12 ⟨rfl, hq⟩
     have HX_12 := Lib.hid (HX_11.out.on hq); have HB_12 := Lib.hid (below_then HB_11.out hq)
     clear hq HX_11 HB_11 CI2 fa_4 fa_5 fb_4 fb_5
     have fa_ := HX_12.out _ (.tail _ (.head _))
     have fa_0 := fa_.cell 0
     have fa_1 := fa_.cell 1
     simp at fa_0 fa_1
     clear fa_
     have fb_ := HX_12.out _ (.head _)
     have fb_0 := fb_.cell 0
     have fb_1 := fb_.cell 1
     simp at fb_0 fb_1
     clear fb_
     go_wp2_with fail
     refine (CI3.out _).mono ?_
     rintro e z13 ⟨rfl, hq⟩
     have HX_13 := Lib.hid (HX_12.out.on hq); have HB_13 := Lib.hid (below_then HB_12.out hq)
     clear hq HX_12 HB_12 CI3 fa_0 fa_1 fb_0 fb_1
     go_upto_region 14 with fail
     as_aux_lemma =>
      obtain ⟨g1, g2, g3, g4, g5, g6, g7⟩ := mass_in n4 n5 n6 n7
      have hrd := density_in n0 n1
      have CMA := Lib.hid (fun (W : World) => smod_to n4 200 W (by omega) (by omega))
      have CMB := Lib.hid (fun (W : World) => smod_to n5 50 W (by omega) (by omega))
      have CPL := Lib.hid (fun (W : World) => mpart_to (n4 % 200) (n4 % 200 + n5 % 50) n6 n7 W (by omega) (by omega) (by omega))
      have CDN := Lib.hid (fun (W : World) => sDensityN_to n0 n1 W)
      have w1 : IntKind.i64.wrap (n4 % 200 + n5 % 50) = n4 % 200 + n5 % 50 := IntWalk.i64_in _ ⟨by omega, by omega⟩
      obtain ⟨⟨r0, r1⟩, hr⟩ : ∃ z, densityS n0 n1 = z := ⟨_, rfl⟩
      rw [hr] at hrd CDN
      dsimp only at hrd CDN
      have CPR := Lib.hid (fun (W : World) => mpart_to r0 r1 n2 n3 W hrd.2.1 (by omega) (by omega))
      have hrp := part_in (a := n2) (b := n3) hrd.2.1
      obtain ⟨⟨s0, s1⟩, hs⟩ : ∃ z, partS r0 r1 n2 n3 = z := ⟨_, rfl⟩
      rw [hs] at hrp CPR
      dsimp only at hrp CPR
      obtain ⟨⟨l0, l1⟩, hl⟩ : ∃ z, partS (n4 % 200) (n4 % 200 + n5 % 50) n6 n7 = z := ⟨_, rfl⟩
      rw [hl] at g5 g6 g7 CPL
      dsimp only at g5 g6 g7 CPL
      obtain ⟨ma, hma⟩ : ∃ z, n4 % 200 = z := ⟨_, rfl⟩
      rw [hma] at g1 g2 g5 g7 CMA CPL w1
      obtain ⟨mb, hmb⟩ : ∃ z, n5 % 50 = z := ⟨_, rfl⟩
      rw [hmb] at g3 g4 g7 CMB CPL w1
      obtain ⟨mc, hmc⟩ : ∃ z, ma + mb = z := ⟨_, rfl⟩
      replace w1 := w1.trans hmc
      rw [hmc] at g7 CPL
      have PN := pour_narrow (a := ma) (b := mc) (a' := l0) (b' := l1) (c := r0) (d := r1) (c' := s0) (d' := s1) HF0.out HN.out (mass_ok (by omega) (by omega) (by omega) (by omega)) (mass_ok (by omega) (by omega) (by omega) (by omega)) g1 g5 g7 hrp.1 hrp.2.2
      have DN := draw_narrow (a := ma) (b := mc) (a' := l0) (b' := l1) HF0.out HN.out ((vR_iff _ _).2 (by omega)) ((vR_iff _ _).2 (by omega)) g1 g5 g7
      have CP1 := Lib.hid (fun (W : World) (hW : Below z1.heap.size z1 W) => hPour_any ⟨hid, al, ah, vol, mom, hei, t0, t1, u0, u1, v0, v1, h0, h1⟩ ⟨A, n, c, B, mm, d, C, l, ee⟩ ⟨fh, fs, p0, p1, d0, d1⟩ ma mc r0 r1 W (HIN.out.below hW))
      have CP2 := Lib.hid (fun (W : World) (hW : Below z1.heap.size z1 W) => hPour_any ⟨hid, al, ah, vol, mom, hei, t0, t1, u0, u1, v0, v1, h0, h1⟩ ⟨A, n, c, B, mm, d, C, l, ee⟩ ⟨fh, fs, P0, P1, D0, D1⟩ l0 l1 s0 s1 W (HIN.out.below hW))
      have CD1 := Lib.hid (fun (W : World) (hW : Below z1.heap.size z1 W) => hDraw_any ⟨hid, al, ah, vol, mom, hei, t0, t1, u0, u1, v0, v1, h0, h1⟩ ⟨A, n, c, B, mm, d, C, l, ee⟩ ⟨fh, fs, p0, p1, d0, d1⟩ ma mc W (HIN.out.below hW))
      have CD2 := Lib.hid (fun (W : World) (hW : Below z1.heap.size z1 W) => hDraw_any ⟨hid, al, ah, vol, mom, hei, t0, t1, u0, u1, v0, v1, h0, h1⟩ ⟨A, n, c, B, mm, d, C, l, ee⟩ ⟨fh, fs, P0, P1, D0, D1⟩ l0 l1 W (HIN.out.below hW))
      obtain ⟨⟨⟨i0, i1, i2, i3, i4, i5⟩, ei⟩, hi⟩ : ∃ z, pourS ⟨hid, al, ah, vol, mom, hei, t0, t1, u0, u1, v0, v1, h0, h1⟩ ⟨fh, fs, p0, p1, d0, d1⟩ ma mc r0 r1 = z := ⟨_, rfl⟩
      obtain ⟨⟨⟨j0, j1, j2, j3, j4, j5⟩, ej⟩, hj⟩ : ∃ z, pourS ⟨hid, al, ah, vol, mom, hei, t0, t1, u0, u1, v0, v1, h0, h1⟩ ⟨fh, fs, P0, P1, D0, D1⟩ l0 l1 s0 s1 = z := ⟨_, rfl⟩
      obtain ⟨⟨⟨k0, k1, k2, k3, k4, k5⟩, ek⟩, hk⟩ : ∃ z, drawS ⟨hid, al, ah, vol, mom, hei, t0, t1, u0, u1, v0, v1, h0, h1⟩ ⟨fh, fs, p0, p1, d0, d1⟩ ma mc = z := ⟨_, rfl⟩
      obtain ⟨⟨⟨o0, o1, o2, o3, o4, o5⟩, eo⟩, ho⟩ : ∃ z, drawS ⟨hid, al, ah, vol, mom, hei, t0, t1, u0, u1, v0, v1, h0, h1⟩ ⟨fh, fs, P0, P1, D0, D1⟩ l0 l1 = z := ⟨_, rfl⟩
      rw [hi] at PN CP1
      rw [hj] at PN CP2
      rw [hk] at DN CD1
      rw [ho] at DN CD2
      dsimp only [holdV, holdCells, fillV, ft] at PN DN CP1 CP2 CD1 CD2
      have HPO := Lib.hid PN; have HDR := Lib.hid DN; have HW1 := Lib.hid w1
      clear g1 g2 g3 g4 g5 g6 g7 hrd hr hrp hs hl hma hmb hmc hi hj hk ho PN DN w1 HIN HF0 HN
      go_cut [18] (fun s18 wx => ∃ N, s18 = .pointer (some ⟨N, 0, none⟩) ∧ Boxes wx ((N, 30, #[.int .i64 ma, .int .i64 mc]) :: [(MD, 30, #[.int .i64 b4, .int .i64 b5]), (MC, 30, #[.int .i64 a4, .int .i64 a5]), (MB, 74, #[.int .i64 b0, .int .i64 b1, .int .i64 al, .int .i64 ah, .int .i64 b2, .int .i64 b3]), (MA, 74, #[.int .i64 a0, .int .i64 a1, .int .i64 al, .int .i64 ah, .int .i64 a2, .int .i64 a3]), (MG, 55, #[.int .i64 fh, .int .i64 fs, .int .i64 P0, .int .i64 P1, .int .i64 D0, .int .i64 D1]), (MF, 55, #[.int .i64 fh, .int .i64 fs, .int .i64 p0, .int .i64 p1, .int .i64 d0, .int .i64 d1]), (MH, 35, #[.int .i64 hid, .int .i64 al, .int .i64 ah, .slice A n c, .slice B mm d, .slice C l ee, .int .i64 t0, .int .i64 t1, .int .i64 u0, .int .i64 u1, .int .i64 v0, .int .i64 v1, .int .i64 h0, .int .i64 h1]), ((G + 1 + 1), 70, #[.int .i64 n0, .int .i64 n1, .int .i64 n2, .int .i64 n3, .int .i64 n4, .int .i64 n5, .int .i64 n6, .int .i64 n7]), ((G + 1), 53, #[.int .i64 x0, .int .i64 x1, .int .i64 x2, .int .i64 x3, .int .i64 x4]), (G, 24, #[.int .i64 id, .int .i64 fi, .slice S sn sc, .slice V vn vc])]) ∧ Below z1.heap.size z1 wx)
      case first =>
       as_aux_lemma =>
        obtain ⟨LB, hLB⟩ : ∃ x, ([(MD, 30, #[.int .i64 b4, .int .i64 b5]), (MC, 30, #[.int .i64 a4, .int .i64 a5]), (MB, 74, #[.int .i64 b0, .int .i64 b1, .int .i64 al, .int .i64 ah, .int .i64 b2, .int .i64 b3]), (MA, 74, #[.int .i64 a0, .int .i64 a1, .int .i64 al, .int .i64 ah, .int .i64 a2, .int .i64 a3]), (MG, 55, #[.int .i64 fh, .int .i64 fs, .int .i64 P0, .int .i64 P1, .int .i64 D0, .int .i64 D1]), (MF, 55, #[.int .i64 fh, .int .i64 fs, .int .i64 p0, .int .i64 p1, .int .i64 d0, .int .i64 d1]), (MH, 35, #[.int .i64 hid, .int .i64 al, .int .i64 ah, .slice A n c, .slice B mm d, .slice C l ee, .int .i64 t0, .int .i64 t1, .int .i64 u0, .int .i64 u1, .int .i64 v0, .int .i64 v1, .int .i64 h0, .int .i64 h1]), ((G + 1 + 1), 70, #[.int .i64 n0, .int .i64 n1, .int .i64 n2, .int .i64 n3, .int .i64 n4, .int .i64 n5, .int .i64 n6, .int .i64 n7]), ((G + 1), 53, #[.int .i64 x0, .int .i64 x1, .int .i64 x2, .int .i64 x3, .int .i64 x4]), (G, 24, #[.int .i64 id, .int .i64 fi, .slice S sn sc, .slice V vn vc])] : List (Nat × TypeId × Array Value)) = x := ⟨_, rfl⟩
        have hl0 : (MD, 30, #[.int .i64 b4, .int .i64 b5]) ∈ LB ∧ (MC, 30, #[.int .i64 a4, .int .i64 a5]) ∈ LB ∧ (MB, 74, #[.int .i64 b0, .int .i64 b1, .int .i64 al, .int .i64 ah, .int .i64 b2, .int .i64 b3]) ∈ LB ∧ (MA, 74, #[.int .i64 a0, .int .i64 a1, .int .i64 al, .int .i64 ah, .int .i64 a2, .int .i64 a3]) ∈ LB ∧ (MG, 55, #[.int .i64 fh, .int .i64 fs, .int .i64 P0, .int .i64 P1, .int .i64 D0, .int .i64 D1]) ∈ LB ∧ (MF, 55, #[.int .i64 fh, .int .i64 fs, .int .i64 p0, .int .i64 p1, .int .i64 d0, .int .i64 d1]) ∈ LB ∧ (MH, 35, #[.int .i64 hid, .int .i64 al, .int .i64 ah, .slice A n c, .slice B mm d, .slice C l ee, .int .i64 t0, .int .i64 t1, .int .i64 u0, .int .i64 u1, .int .i64 v0, .int .i64 v1, .int .i64 h0, .int .i64 h1]) ∈ LB ∧ ((G + 1 + 1), 70, #[.int .i64 n0, .int .i64 n1, .int .i64 n2, .int .i64 n3, .int .i64 n4, .int .i64 n5, .int .i64 n6, .int .i64 n7]) ∈ LB ∧ ((G + 1), 53, #[.int .i64 x0, .int .i64 x1, .int .i64 x2, .int .i64 x3, .int .i64 x4]) ∈ LB ∧ (G, 24, #[.int .i64 id, .int .i64 fi, .slice S sn sc, .slice V vn vc]) ∈ LB ∧ True := by rw [← hLB]; simp
        have HL0 := Lib.hid hl0
        have hS0 : BB2 z1 LB z13.drew := ⟨by rw [← hLB]; exact HX_13.out, HB_13.out.drew⟩
        have HLB := Lib.hid hLB
        clear hLB hl0
        refine wp_region_held_drew (S := BB2 z1 LB) (by kernel_rfl) hS0 (fun hHeld => ?_)
        obtain ⟨yq, hW⟩ : ∃ W', z13.drew = W' := ⟨_, rfl⟩
        rw [hW] at hHeld ⊢
        clear hW hS0 HB_13 HX_13 
        refine tK 119 (i := 0) (v := .pointer (some ⟨(G + 1 + 1), 4, none⟩)) rfl rfl (by kernel_rfl) ?_ hHeld ?_
        ·intro w hSw; clear hSw; go_simp; try with_reducible rfl
        simp only [uZ, uS]
        refine tK 120 (i := 1) (v := .int .i64 n4) rfl rfl (by kernel_rfl) ?_ hHeld ?_
        ·intro w hSw; have hz := hSw.1 _ HL0.out.2.2.2.2.2.2.2.1; have c4 := hz.cell 4; simp at c4; clear hz hSw; go_simp; try with_reducible rfl
        simp only [uZ, uS]
        refine tK 122 (i := 3) (v := .pointer (some ⟨(G + 1 + 1), 4, none⟩)) rfl rfl (by kernel_rfl) ?_ hHeld ?_
        ·intro w hSw; clear hSw; go_simp; try with_reducible rfl
        simp only [uZ, uS]
        refine tK 123 (i := 4) (v := .int .i64 n4) rfl rfl (by kernel_rfl) ?_ hHeld ?_
        ·intro w hSw; have hz := hSw.1 _ HL0.out.2.2.2.2.2.2.2.1; have c4 := hz.cell 4; simp at c4; clear hz hSw; go_simp; try with_reducible rfl
        simp only [uZ, uS]
        refine tK 125 (i := 6) (v := .pointer (some ⟨(G + 1 + 1), 5, none⟩)) rfl rfl (by kernel_rfl) ?_ hHeld ?_
        ·intro w hSw; clear hSw; go_simp; try with_reducible rfl
        simp only [uZ, uS]
        refine tK 126 (i := 7) (v := .int .i64 n5) rfl rfl (by kernel_rfl) ?_ hHeld ?_
        ·intro w hSw; have hz := hSw.1 _ HL0.out.2.2.2.2.2.2.2.1; have c5 := hz.cell 5; simp at c5; clear hz hSw; go_simp; try with_reducible rfl
        simp only [uZ, uS]
        refine wpAnyH_ready (rs := [2, 11]) (by kernel_rfl) (by simp) ?_
        refine AllReadyH.cons rfl (fun K hK => ?_) (AllReadyH.cons rfl (fun K hK => ?_) AllReadyH.nil)
        ·skip
         go_simp
         (with_reducible refine (CMA.out _).mono ?_)
         rintro x y ⟨rfl, hq⟩
         refine hK.out _ _ ⟨hHeld.1.on hq, below_then hHeld.2 hq⟩ (fun hHeld2 => ?_)
         clear hq
         try simp only [Act.put, uA, uZ, uS]
         clear hK K hHeld
         have hHeld := hHeld2
         clear hHeld2
         refine wpAnyH_ready (rs := [5, 11]) (by kernel_rfl) (by simp) ?_
         refine AllReadyH.cons rfl (fun K hK => ?_) (AllReadyH.cons rfl (fun K hK => ?_) AllReadyH.nil)
         ·skip
          go_simp
          (with_reducible refine (CMA.out _).mono ?_)
          rintro x y ⟨rfl, hq⟩
          refine hK.out _ _ ⟨hHeld.1.on hq, below_then hHeld.2 hq⟩ (fun hHeld2 => ?_)
          clear hq
          try simp only [Act.put, uA, uZ, uS]
          clear hK K hHeld
          have hHeld := hHeld2
          clear hHeld2
          refine wpAnyH_ready (rs := [8, 11]) (by kernel_rfl) (by simp) ?_
          refine AllReadyH.cons rfl (fun K hK => ?_) (AllReadyH.cons rfl (fun K hK => ?_) AllReadyH.nil)
          ·skip
           go_simp
           (with_reducible refine (CMB.out _).mono ?_)
           rintro x y ⟨rfl, hq⟩
           refine hK.out _ _ ⟨hHeld.1.on hq, below_then hHeld.2 hq⟩ (fun hHeld2 => ?_)
           clear hq
           try simp only [Act.put, uA, uZ, uS]
           clear hK K hHeld
           have hHeld := hHeld2
           clear hHeld2
           refine tK 128 (i := 9) (v := .int .i64 mc) rfl rfl (by kernel_rfl) ?_ hHeld ?_
           ·intro w hSw; clear hSw; go_simp; first | done | exact HW1.out
           simp only [uZ, uS]
           refine tK 129 (i := 10) (v := rv ma mc) rfl rfl (by kernel_rfl) ?_ hHeld ?_
           ·intro w hSw; clear hSw; go_simp; try with_reducible rfl
           simp only [uZ, uS]
           refine wpAnyH_ready (rs := [11]) (by kernel_rfl) (by simp) ?_
           refine AllReadyH.cons rfl (fun K hK => ?_) AllReadyH.nil
           rename World => yq
           go_simp
           have HDN := Lib.hid (boxes_lt hHeld.1); have HZN := Lib.hid hHeld.2.size; have HY := Lib.hid (hHeld.1.new 30 #[.int .i64 0, .int .i64 0])
           refine hK.out _ _ ⟨hHeld.1.on (below_alloc1 _ _), below_then hHeld.2 (below_alloc1 _ _)⟩ (fun hHeld2 => ?_)
           try simp only [Act.put, uA, uZ, uS]
           clear hK K hHeld
           have hHeld := hHeld2
           clear hHeld2
           obtain ⟨yr, hW⟩ : ∃ W', yq.alloc (.cells #[.int .i64 0, .int .i64 0] 30) = W' := ⟨_, rfl⟩
           rw [hW] at HY hHeld ⊢
           clear hW
           obtain ⟨N14, hN⟩ : ∃ N, yq.heap.size = N := ⟨_, rfl⟩
           rw [hN] at HY HDN HZN ⊢
           clear hN
           refine wpAnyH_ready (rs := [12]) (by kernel_rfl) (by simp) ?_
           refine AllReadyH.cons rfl (fun K hK => ?_) AllReadyH.nil
           rw [if_pos (by kernel_rfl)]
           rename World => yq
           have HXs : Hid (Boxes (yq.setRow N14 #[.int .i64 ma, .int .i64 mc]) ((N14, 30, #[.int .i64 ma, .int .i64 mc]) :: LB)) := Lib.hid (Boxes.row HY.out (.head _) (fun p hp => ⟨.tail _ hp, HDN.out p hp⟩) #[.int .i64 ma, .int .i64 mc])
           have HEs := Lib.hid (below_setRow hHeld.2 (show z1.heap.size ≤ N14 from HZN.out) #[.int .i64 ma, .int .i64 mc])
           refine wp_store_row 30 (.tmp 18) (.tmp 129) rfl N14 #[.int .i64 ma, .int .i64 mc] rfl rfl 30 _ (HY.out _ (.head _)) (by kernel_rfl) rfl (by kernel_rfl) ?_
           refine hK.out _ _ ⟨hHeld.1.farRow (g := N14) HDN.out _, HEs.out⟩ (fun hHeld2 => ?_)
           try simp only [Act.put, uA, uZ, uS]
           clear hK K hHeld
           have hHeld := hHeld2
           clear hHeld2
           refine wpAnyH_done (by kernel_rfl) ?_ _
           clear hHeld
           go_wp2_with fail
           go_meet
           rw [← HLB.out] at HXs
           exact ⟨N14, rfl, HXs.out, HEs.out⟩
          ·skip
           rename World => yq
           go_simp
           have HDN := Lib.hid (boxes_lt hHeld.1); have HZN := Lib.hid hHeld.2.size; have HY := Lib.hid (hHeld.1.new 30 #[.int .i64 0, .int .i64 0])
           refine hK.out _ _ ⟨hHeld.1.on (below_alloc1 _ _), below_then hHeld.2 (below_alloc1 _ _)⟩ (fun hHeld2 => ?_)
           try simp only [Act.put, uA, uZ, uS]
           clear hK K hHeld
           have hHeld := hHeld2
           clear hHeld2
           obtain ⟨yr, hW⟩ : ∃ W', yq.alloc (.cells #[.int .i64 0, .int .i64 0] 30) = W' := ⟨_, rfl⟩
           rw [hW] at HY hHeld ⊢
           clear hW
           obtain ⟨N14, hN⟩ : ∃ N, yq.heap.size = N := ⟨_, rfl⟩
           rw [hN] at HY HDN HZN ⊢
           clear hN
           refine wpAnyH_ready (rs := [8]) (by kernel_rfl) (by simp) ?_
           refine AllReadyH.cons rfl (fun K hK => ?_) AllReadyH.nil
           go_simp
           (with_reducible refine (CMB.out _).mono ?_)
           rintro x y ⟨rfl, hq⟩
           have HY := Lib.hid (HY.out.on hq)
           refine hK.out _ _ ⟨hHeld.1.on hq, below_then hHeld.2 hq⟩ (fun hHeld2 => ?_)
           clear hq
           try simp only [Act.put, uA, uZ, uS]
           clear hK K hHeld
           have hHeld := hHeld2
           clear hHeld2
           refine tK 128 (i := 9) (v := .int .i64 mc) rfl rfl (by kernel_rfl) ?_ hHeld ?_
           ·intro w hSw; clear hSw; go_simp; first | done | exact HW1.out
           simp only [uZ, uS]
           refine tK 129 (i := 10) (v := rv ma mc) rfl rfl (by kernel_rfl) ?_ hHeld ?_
           ·intro w hSw; clear hSw; go_simp; try with_reducible rfl
           simp only [uZ, uS]
           refine wpAnyH_ready (rs := [12]) (by kernel_rfl) (by simp) ?_
           refine AllReadyH.cons rfl (fun K hK => ?_) AllReadyH.nil
           rw [if_pos (by kernel_rfl)]
           rename World => yq
           have HXs : Hid (Boxes (yq.setRow N14 #[.int .i64 ma, .int .i64 mc]) ((N14, 30, #[.int .i64 ma, .int .i64 mc]) :: LB)) := Lib.hid (Boxes.row HY.out (.head _) (fun p hp => ⟨.tail _ hp, HDN.out p hp⟩) #[.int .i64 ma, .int .i64 mc])
           have HEs := Lib.hid (below_setRow hHeld.2 (show z1.heap.size ≤ N14 from HZN.out) #[.int .i64 ma, .int .i64 mc])
           refine wp_store_row 30 (.tmp 18) (.tmp 129) rfl N14 #[.int .i64 ma, .int .i64 mc] rfl rfl 30 _ (HY.out _ (.head _)) (by kernel_rfl) rfl (by kernel_rfl) ?_
           refine hK.out _ _ ⟨hHeld.1.farRow (g := N14) HDN.out _, HEs.out⟩ (fun hHeld2 => ?_)
           try simp only [Act.put, uA, uZ, uS]
           clear hK K hHeld
           have hHeld := hHeld2
           clear hHeld2
           refine wpAnyH_done (by kernel_rfl) ?_ _
           clear hHeld
           go_wp2_with fail
           go_meet
           rw [← HLB.out] at HXs
           exact ⟨N14, rfl, HXs.out, HEs.out⟩
         ·skip
          rename World => yq
          go_simp
          have HDN := Lib.hid (boxes_lt hHeld.1); have HZN := Lib.hid hHeld.2.size; have HY := Lib.hid (hHeld.1.new 30 #[.int .i64 0, .int .i64 0])
          refine hK.out _ _ ⟨hHeld.1.on (below_alloc1 _ _), below_then hHeld.2 (below_alloc1 _ _)⟩ (fun hHeld2 => ?_)
          try simp only [Act.put, uA, uZ, uS]
          clear hK K hHeld
          have hHeld := hHeld2
          clear hHeld2
          obtain ⟨yr, hW⟩ : ∃ W', yq.alloc (.cells #[.int .i64 0, .int .i64 0] 30) = W' := ⟨_, rfl⟩
          rw [hW] at HY hHeld ⊢
          clear hW
          obtain ⟨N14, hN⟩ : ∃ N, yq.heap.size = N := ⟨_, rfl⟩
          rw [hN] at HY HDN HZN ⊢
          clear hN
          refine wpAnyH_ready (rs := [5]) (by kernel_rfl) (by simp) ?_
          refine AllReadyH.cons rfl (fun K hK => ?_) AllReadyH.nil
          go_simp
          (with_reducible refine (CMA.out _).mono ?_)
          rintro x y ⟨rfl, hq⟩
          have HY := Lib.hid (HY.out.on hq)
          refine hK.out _ _ ⟨hHeld.1.on hq, below_then hHeld.2 hq⟩ (fun hHeld2 => ?_)
          clear hq
          try simp only [Act.put, uA, uZ, uS]
          clear hK K hHeld
          have hHeld := hHeld2
          clear hHeld2
          refine wpAnyH_ready (rs := [8]) (by kernel_rfl) (by simp) ?_
          refine AllReadyH.cons rfl (fun K hK => ?_) AllReadyH.nil
          go_simp
          (with_reducible refine (CMB.out _).mono ?_)
          rintro x y ⟨rfl, hq⟩
          have HY := Lib.hid (HY.out.on hq)
          refine hK.out _ _ ⟨hHeld.1.on hq, below_then hHeld.2 hq⟩ (fun hHeld2 => ?_)
          clear hq
          try simp only [Act.put, uA, uZ, uS]
          clear hK K hHeld
          have hHeld := hHeld2
          clear hHeld2
          refine tK 128 (i := 9) (v := .int .i64 mc) rfl rfl (by kernel_rfl) ?_ hHeld ?_
          ·intro w hSw; clear hSw; go_simp; first | done | exact HW1.out
          simp only [uZ, uS]
          refine tK 129 (i := 10) (v := rv ma mc) rfl rfl (by kernel_rfl) ?_ hHeld ?_
          ·intro w hSw; clear hSw; go_simp; try with_reducible rfl
          simp only [uZ, uS]
          refine wpAnyH_ready (rs := [12]) (by kernel_rfl) (by simp) ?_
          refine AllReadyH.cons rfl (fun K hK => ?_) AllReadyH.nil
          rw [if_pos (by kernel_rfl)]
          rename World => yq
          have HXs : Hid (Boxes (yq.setRow N14 #[.int .i64 ma, .int .i64 mc]) ((N14, 30, #[.int .i64 ma, .int .i64 mc]) :: LB)) := Lib.hid (Boxes.row HY.out (.head _) (fun p hp => ⟨.tail _ hp, HDN.out p hp⟩) #[.int .i64 ma, .int .i64 mc])
          have HEs := Lib.hid (below_setRow hHeld.2 (show z1.heap.size ≤ N14 from HZN.out) #[.int .i64 ma, .int .i64 mc])
          refine wp_store_row 30 (.tmp 18) (.tmp 129) rfl N14 #[.int .i64 ma, .int .i64 mc] rfl rfl 30 _ (HY.out _ (.head _)) (by kernel_rfl) rfl (by kernel_rfl) ?_
          refine hK.out _ _ ⟨hHeld.1.farRow (g := N14) HDN.out _, HEs.out⟩ (fun hHeld2 => ?_)
          try simp only [Act.put, uA, uZ, uS]
          clear hK K hHeld
          have hHeld := hHeld2
          clear hHeld2
          refine wpAnyH_done (by kernel_rfl) ?_ _
          clear hHeld
          go_wp2_with fail
          go_meet
          rw [← HLB.out] at HXs
          exact ⟨N14, rfl, HXs.out, HEs.out⟩
        ·skip
         rename World => yq
         go_simp
         have HDN := Lib.hid (boxes_lt hHeld.1); have HZN := Lib.hid hHeld.2.size; have HY := Lib.hid (hHeld.1.new 30 #[.int .i64 0, .int .i64 0])
         refine hK.out _ _ ⟨hHeld.1.on (below_alloc1 _ _), below_then hHeld.2 (below_alloc1 _ _)⟩ (fun hHeld2 => ?_)
         try simp only [Act.put, uA, uZ, uS]
         clear hK K hHeld
         have hHeld := hHeld2
         clear hHeld2
         obtain ⟨yr, hW⟩ : ∃ W', yq.alloc (.cells #[.int .i64 0, .int .i64 0] 30) = W' := ⟨_, rfl⟩
         rw [hW] at HY hHeld ⊢
         clear hW
         obtain ⟨N14, hN⟩ : ∃ N, yq.heap.size = N := ⟨_, rfl⟩
         rw [hN] at HY HDN HZN ⊢
         clear hN
         refine wpAnyH_ready (rs := [2]) (by kernel_rfl) (by simp) ?_
         refine AllReadyH.cons rfl (fun K hK => ?_) AllReadyH.nil
         go_simp
         (with_reducible refine (CMA.out _).mono ?_)
         rintro x y ⟨rfl, hq⟩
         have HY := Lib.hid (HY.out.on hq)
         refine hK.out _ _ ⟨hHeld.1.on hq, below_then hHeld.2 hq⟩ (fun hHeld2 => ?_)
         clear hq
         try simp only [Act.put, uA, uZ, uS]
         clear hK K hHeld
         have hHeld := hHeld2
         clear hHeld2
         refine wpAnyH_ready (rs := [5]) (by kernel_rfl) (by simp) ?_
         refine AllReadyH.cons rfl (fun K hK => ?_) AllReadyH.nil
         go_simp
         (with_reducible refine (CMA.out _).mono ?_)
         rintro x y ⟨rfl, hq⟩
         have HY := Lib.hid (HY.out.on hq)
         refine hK.out _ _ ⟨hHeld.1.on hq, below_then hHeld.2 hq⟩ (fun hHeld2 => ?_)
         clear hq
         try simp only [Act.put, uA, uZ, uS]
         clear hK K hHeld
         have hHeld := hHeld2
         clear hHeld2
         refine wpAnyH_ready (rs := [8]) (by kernel_rfl) (by simp) ?_
         refine AllReadyH.cons rfl (fun K hK => ?_) AllReadyH.nil
         go_simp
         (with_reducible refine (CMB.out _).mono ?_)
         rintro x y ⟨rfl, hq⟩
         have HY := Lib.hid (HY.out.on hq)
         refine hK.out _ _ ⟨hHeld.1.on hq, below_then hHeld.2 hq⟩ (fun hHeld2 => ?_)
         clear hq
         try simp only [Act.put, uA, uZ, uS]
         clear hK K hHeld
         have hHeld := hHeld2
         clear hHeld2
         refine tK 128 (i := 9) (v := .int .i64 mc) rfl rfl (by kernel_rfl) ?_ hHeld ?_
         ·intro w hSw; clear hSw; go_simp; first | done | exact HW1.out
         simp only [uZ, uS]
         refine tK 129 (i := 10) (v := rv ma mc) rfl rfl (by kernel_rfl) ?_ hHeld ?_
         ·intro w hSw; clear hSw; go_simp; try with_reducible rfl
         simp only [uZ, uS]
         refine wpAnyH_ready (rs := [12]) (by kernel_rfl) (by simp) ?_
         refine AllReadyH.cons rfl (fun K hK => ?_) AllReadyH.nil
         rw [if_pos (by kernel_rfl)]
         rename World => yq
         have HXs : Hid (Boxes (yq.setRow N14 #[.int .i64 ma, .int .i64 mc]) ((N14, 30, #[.int .i64 ma, .int .i64 mc]) :: LB)) := Lib.hid (Boxes.row HY.out (.head _) (fun p hp => ⟨.tail _ hp, HDN.out p hp⟩) #[.int .i64 ma, .int .i64 mc])
         have HEs := Lib.hid (below_setRow hHeld.2 (show z1.heap.size ≤ N14 from HZN.out) #[.int .i64 ma, .int .i64 mc])
         refine wp_store_row 30 (.tmp 18) (.tmp 129) rfl N14 #[.int .i64 ma, .int .i64 mc] rfl rfl 30 _ (HY.out _ (.head _)) (by kernel_rfl) rfl (by kernel_rfl) ?_
         refine hK.out _ _ ⟨hHeld.1.farRow (g := N14) HDN.out _, HEs.out⟩ (fun hHeld2 => ?_)
         try simp only [Act.put, uA, uZ, uS]
         clear hK K hHeld
         have hHeld := hHeld2
         clear hHeld2
         refine wpAnyH_done (by kernel_rfl) ?_ _
         clear hHeld
         go_wp2_with fail
         go_meet
         rw [← HLB.out] at HXs
         exact ⟨N14, rfl, HXs.out, HEs.out⟩
      case rest =>
       obtain ⟨MM, rfl, hX, hB⟩ := hcut
       have HX_15 := Lib.hid hX; have HB_15 := Lib.hid hB
       clear hX hB HX_13 HB_13 CMA CMB HW1
       rename World => zr15
       as_aux_lemma =>
        go_upto_region 15 with fail
        have fa_ := HX_15.out _ (.tail _ (.tail _ (.tail _ (.tail _ (.tail _ (.tail _ (.tail _ (.tail _ (.head _)))))))))
        have fa_6 := fa_.cell 6
        have fa_7 := fa_.cell 7
        simp at fa_6 fa_7
        clear fa_
        have fb_ := HX_15.out _ (.head _)
        have fb_0 := fb_.cell 0
        have fb_1 := fb_.cell 1
        simp at fb_0 fb_1
        clear fb_
        go_wp2_with fail
        refine (CPL.out _).mono ?_
        rintro e z16 ⟨rfl, hq⟩
        have HX_16 := Lib.hid ((HX_15.out.on hq).new 30 #[.int .i64 l0, .int .i64 l1]); have HB_16 := Lib.hid (below_then (below_then HB_15.out hq) (below_alloc1 z16 (.cells #[.int .i64 l0, .int .i64 l1] 30)))
        clear hq HX_15 HB_15 fa_6 fa_7 fb_0 fb_1 CPL
        go_upto_region 16 with fail
        obtain ⟨V16, hW⟩ : ∃ W', z16.alloc (.cells #[.int .i64 l0, .int .i64 l1] 30) = W' := ⟨_, rfl⟩
        rw [hW] at HX_16 HB_16  ⊢
        clear hW
        obtain ⟨ML, hN⟩ : ∃ n, z16.heap.size = n := ⟨_, rfl⟩
        rw [hN] at HX_16  ⊢
        clear hN
        have fa_ := HX_16.out _ (.tail _ (.tail _ (.tail _ (.tail _ (.tail _ (.tail _ (.tail _ (.tail _ (.tail _ (.head _))))))))))
        have fa_0 := fa_.cell 0
        have fa_1 := fa_.cell 1
        simp at fa_0 fa_1
        clear fa_
        go_wp2_with fail
        refine (CDN.out _).mono ?_
        rintro e z17 ⟨rfl, hq⟩
        have HX_17 := Lib.hid ((HX_16.out.on hq).new 30 #[.int .i64 r0, .int .i64 r1]); have HB_17 := Lib.hid (below_then (below_then HB_16.out hq) (below_alloc1 z17 (.cells #[.int .i64 r0, .int .i64 r1] 30)))
        clear hq HX_16 HB_16 fa_0 fa_1 CDN
        go_upto_region 17 with fail
        obtain ⟨V17, hW⟩ : ∃ W', z17.alloc (.cells #[.int .i64 r0, .int .i64 r1] 30) = W' := ⟨_, rfl⟩
        rw [hW] at HX_17 HB_17  ⊢
        clear hW
        obtain ⟨MR, hN⟩ : ∃ n, z17.heap.size = n := ⟨_, rfl⟩
        rw [hN] at HX_17  ⊢
        clear hN
        as_aux_lemma =>
         have fa_ := HX_17.out _ (.tail _ (.tail _ (.tail _ (.tail _ (.tail _ (.tail _ (.tail _ (.tail _ (.head _)))))))))
         have fa_0 := fa_.cell 0
         have fa_1 := fa_.cell 1
         have fa_2 := fa_.cell 2
         have fa_3 := fa_.cell 3
         have fa_4 := fa_.cell 4
         have fa_5 := fa_.cell 5
         simp at fa_0 fa_1 fa_2 fa_3 fa_4 fa_5
         clear fa_
         have fb_ := HX_17.out _ (.tail _ (.tail _ (.tail _ (.tail _ (.tail _ (.tail _ (.tail _ (.tail _ (.tail _ (.head _))))))))))
         have fb_0 := fb_.cell 0
         have fb_1 := fb_.cell 1
         have fb_2 := fb_.cell 2
         have fb_3 := fb_.cell 3
         have fb_4 := fb_.cell 4
         have fb_5 := fb_.cell 5
         have fb_6 := fb_.cell 6
         have fb_7 := fb_.cell 7
         have fb_8 := fb_.cell 8
         have fb_9 := fb_.cell 9
         have fb_10 := fb_.cell 10
         have fb_11 := fb_.cell 11
         have fb_12 := fb_.cell 12
         have fb_13 := fb_.cell 13
         simp at fb_0 fb_1 fb_2 fb_3 fb_4 fb_5 fb_6 fb_7 fb_8 fb_9 fb_10 fb_11 fb_12 fb_13
         clear fb_
         have fc_ := HX_17.out _ (.tail _ (.tail _ (.head _)))
         have fc_0 := fc_.cell 0
         have fc_1 := fc_.cell 1
         simp at fc_0 fc_1
         clear fc_
         have fd_ := HX_17.out _ (.head _)
         have fd_0 := fd_.cell 0
         have fd_1 := fd_.cell 1
         simp at fd_0 fd_1
         clear fd_
         go_wp2_with fail
         refine (CP1.out _ HB_17.out).mono ?_
         rintro e z18 ⟨rfl, hq⟩
         have HX_18 := Lib.hid ((HX_17.out.on hq).new 55 #[.int .i64 i0, .int .i64 i1, .int .i64 i2, .int .i64 i3, .int .i64 i4, .int .i64 i5]); have HB_18 := Lib.hid (below_then (below_then HB_17.out hq) (below_alloc1 z18 (.cells #[.int .i64 i0, .int .i64 i1, .int .i64 i2, .int .i64 i3, .int .i64 i4, .int .i64 i5] 55)))
         clear hq HX_17 HB_17 fa_0 fa_1 fa_2 fa_3 fa_4 fa_5 fb_0 fb_1 fb_2 fb_3 fb_4 fb_5 fb_6 fb_7 fb_8 fb_9 fb_10 fb_11 fb_12 fb_13 fc_0 fc_1 fd_0 fd_1 CP1
         go_upto_region 18 with fail
         obtain ⟨V18, hW⟩ : ∃ W', z18.alloc (.cells #[.int .i64 i0, .int .i64 i1, .int .i64 i2, .int .i64 i3, .int .i64 i4, .int .i64 i5] 55) = W' := ⟨_, rfl⟩
         rw [hW] at HX_18 HB_18  ⊢
         clear hW
         obtain ⟨MI, hN⟩ : ∃ n, z18.heap.size = n := ⟨_, rfl⟩
         rw [hN] at HX_18  ⊢
         clear hN
         go_cut [23, 24] (fun s23 s24 wx => ∃ N, s23 = .pointer (some ⟨N, 0, none⟩) ∧ s24 = .int .i64 ej ∧ Boxes wx ((N, 55, #[.int .i64 j0, .int .i64 j1, .int .i64 j2, .int .i64 j3, .int .i64 j4, .int .i64 j5]) :: [(MI, 55, #[.int .i64 i0, .int .i64 i1, .int .i64 i2, .int .i64 i3, .int .i64 i4, .int .i64 i5]), (MR, 30, #[.int .i64 r0, .int .i64 r1]), (ML, 30, #[.int .i64 l0, .int .i64 l1]), (MM, 30, #[.int .i64 ma, .int .i64 mc]), (MD, 30, #[.int .i64 b4, .int .i64 b5]), (MC, 30, #[.int .i64 a4, .int .i64 a5]), (MB, 74, #[.int .i64 b0, .int .i64 b1, .int .i64 al, .int .i64 ah, .int .i64 b2, .int .i64 b3]), (MA, 74, #[.int .i64 a0, .int .i64 a1, .int .i64 al, .int .i64 ah, .int .i64 a2, .int .i64 a3]), (MG, 55, #[.int .i64 fh, .int .i64 fs, .int .i64 P0, .int .i64 P1, .int .i64 D0, .int .i64 D1]), (MF, 55, #[.int .i64 fh, .int .i64 fs, .int .i64 p0, .int .i64 p1, .int .i64 d0, .int .i64 d1]), (MH, 35, #[.int .i64 hid, .int .i64 al, .int .i64 ah, .slice A n c, .slice B mm d, .slice C l ee, .int .i64 t0, .int .i64 t1, .int .i64 u0, .int .i64 u1, .int .i64 v0, .int .i64 v1, .int .i64 h0, .int .i64 h1]), ((G + 1 + 1), 70, #[.int .i64 n0, .int .i64 n1, .int .i64 n2, .int .i64 n3, .int .i64 n4, .int .i64 n5, .int .i64 n6, .int .i64 n7]), ((G + 1), 53, #[.int .i64 x0, .int .i64 x1, .int .i64 x2, .int .i64 x3, .int .i64 x4]), (G, 24, #[.int .i64 id, .int .i64 fi, .slice S sn sc, .slice V vn vc])]) ∧ Below z1.heap.size z1 wx)
         case first =>
          as_aux_lemma =>
           obtain ⟨LB, hLB⟩ : ∃ x, ([(MI, 55, #[.int .i64 i0, .int .i64 i1, .int .i64 i2, .int .i64 i3, .int .i64 i4, .int .i64 i5]), (MR, 30, #[.int .i64 r0, .int .i64 r1]), (ML, 30, #[.int .i64 l0, .int .i64 l1]), (MM, 30, #[.int .i64 ma, .int .i64 mc]), (MD, 30, #[.int .i64 b4, .int .i64 b5]), (MC, 30, #[.int .i64 a4, .int .i64 a5]), (MB, 74, #[.int .i64 b0, .int .i64 b1, .int .i64 al, .int .i64 ah, .int .i64 b2, .int .i64 b3]), (MA, 74, #[.int .i64 a0, .int .i64 a1, .int .i64 al, .int .i64 ah, .int .i64 a2, .int .i64 a3]), (MG, 55, #[.int .i64 fh, .int .i64 fs, .int .i64 P0, .int .i64 P1, .int .i64 D0, .int .i64 D1]), (MF, 55, #[.int .i64 fh, .int .i64 fs, .int .i64 p0, .int .i64 p1, .int .i64 d0, .int .i64 d1]), (MH, 35, #[.int .i64 hid, .int .i64 al, .int .i64 ah, .slice A n c, .slice B mm d, .slice C l ee, .int .i64 t0, .int .i64 t1, .int .i64 u0, .int .i64 u1, .int .i64 v0, .int .i64 v1, .int .i64 h0, .int .i64 h1]), ((G + 1 + 1), 70, #[.int .i64 n0, .int .i64 n1, .int .i64 n2, .int .i64 n3, .int .i64 n4, .int .i64 n5, .int .i64 n6, .int .i64 n7]), ((G + 1), 53, #[.int .i64 x0, .int .i64 x1, .int .i64 x2, .int .i64 x3, .int .i64 x4]), (G, 24, #[.int .i64 id, .int .i64 fi, .slice S sn sc, .slice V vn vc])] : List (Nat × TypeId × Array Value)) = x := ⟨_, rfl⟩
           have hl0 : (MI, 55, #[.int .i64 i0, .int .i64 i1, .int .i64 i2, .int .i64 i3, .int .i64 i4, .int .i64 i5]) ∈ LB ∧ (MR, 30, #[.int .i64 r0, .int .i64 r1]) ∈ LB ∧ (ML, 30, #[.int .i64 l0, .int .i64 l1]) ∈ LB ∧ (MM, 30, #[.int .i64 ma, .int .i64 mc]) ∈ LB ∧ (MD, 30, #[.int .i64 b4, .int .i64 b5]) ∈ LB ∧ (MC, 30, #[.int .i64 a4, .int .i64 a5]) ∈ LB ∧ (MB, 74, #[.int .i64 b0, .int .i64 b1, .int .i64 al, .int .i64 ah, .int .i64 b2, .int .i64 b3]) ∈ LB ∧ (MA, 74, #[.int .i64 a0, .int .i64 a1, .int .i64 al, .int .i64 ah, .int .i64 a2, .int .i64 a3]) ∈ LB ∧ (MG, 55, #[.int .i64 fh, .int .i64 fs, .int .i64 P0, .int .i64 P1, .int .i64 D0, .int .i64 D1]) ∈ LB ∧ (MF, 55, #[.int .i64 fh, .int .i64 fs, .int .i64 p0, .int .i64 p1, .int .i64 d0, .int .i64 d1]) ∈ LB ∧ (MH, 35, #[.int .i64 hid, .int .i64 al, .int .i64 ah, .slice A n c, .slice B mm d, .slice C l ee, .int .i64 t0, .int .i64 t1, .int .i64 u0, .int .i64 u1, .int .i64 v0, .int .i64 v1, .int .i64 h0, .int .i64 h1]) ∈ LB ∧ ((G + 1 + 1), 70, #[.int .i64 n0, .int .i64 n1, .int .i64 n2, .int .i64 n3, .int .i64 n4, .int .i64 n5, .int .i64 n6, .int .i64 n7]) ∈ LB ∧ ((G + 1), 53, #[.int .i64 x0, .int .i64 x1, .int .i64 x2, .int .i64 x3, .int .i64 x4]) ∈ LB ∧ (G, 24, #[.int .i64 id, .int .i64 fi, .slice S sn sc, .slice V vn vc]) ∈ LB ∧ True := by rw [← hLB]; simp
           have HL0 := Lib.hid hl0
           have hS0 : BB2 z1 LB V18.drew := ⟨by rw [← hLB]; exact HX_18.out, HB_18.out.drew⟩
           have HLB := Lib.hid hLB
           clear hLB hl0
           refine wp_region_held_drew (S := BB2 z1 LB) (by kernel_rfl) hS0 (fun hHeld => ?_)
           obtain ⟨yq, hW⟩ : ∃ W', V18.drew = W' := ⟨_, rfl⟩
           rw [hW] at hHeld ⊢
           clear hW hS0 HB_18 HX_18 
           refine tK 150 (i := 0) (v := .agg #[.int .i64 hid, .int .i64 al, .int .i64 ah, .slice A n c, .slice B mm d, .slice C l ee, .int .i64 t0, .int .i64 t1, .int .i64 u0, .int .i64 u1, .int .i64 v0, .int .i64 v1, .int .i64 h0, .int .i64 h1]) rfl rfl (by kernel_rfl) ?_ hHeld ?_
           ·intro w hSw; have hz := hSw.1 _ HL0.out.2.2.2.2.2.2.2.2.2.2.1; have c0 := hz.cell 0; have c1 := hz.cell 1; have c2 := hz.cell 2; have c3 := hz.cell 3; have c4 := hz.cell 4; have c5 := hz.cell 5; have c6 := hz.cell 6; have c7 := hz.cell 7; have c8 := hz.cell 8; have c9 := hz.cell 9; have c10 := hz.cell 10; have c11 := hz.cell 11; have c12 := hz.cell 12; have c13 := hz.cell 13; simp at c0 c1 c2 c3 c4 c5 c6 c7 c8 c9 c10 c11 c12 c13; clear hz hSw; go_simp; try with_reducible rfl
           simp only [uZ, uS]
           refine tK 151 (i := 1) (v := .agg #[.int .i64 fh, .int .i64 fs, .int .i64 P0, .int .i64 P1, .int .i64 D0, .int .i64 D1]) rfl rfl (by kernel_rfl) ?_ hHeld ?_
           ·intro w hSw; have hz := hSw.1 _ HL0.out.2.2.2.2.2.2.2.2.1; have c0 := hz.cell 0; have c1 := hz.cell 1; have c2 := hz.cell 2; have c3 := hz.cell 3; have c4 := hz.cell 4; have c5 := hz.cell 5; simp at c0 c1 c2 c3 c4 c5; clear hz hSw; go_simp; try with_reducible rfl
           simp only [uZ, uS]
           refine tK 152 (i := 2) (v := rv l0 l1) rfl rfl (by kernel_rfl) ?_ hHeld ?_
           ·intro w hSw; have hz := hSw.1 _ HL0.out.2.2.1; have c0 := hz.cell 0; have c1 := hz.cell 1; simp at c0 c1; clear hz hSw; go_simp; try with_reducible rfl
           simp only [uZ, uS]
           refine tK 153 (i := 3) (v := rv r0 r1) rfl rfl (by kernel_rfl) ?_ hHeld ?_
           ·intro w hSw; have hz := hSw.1 _ HL0.out.2.1; have c0 := hz.cell 0; have c1 := hz.cell 1; simp at c0 c1; clear hz hSw; go_simp; try with_reducible rfl
           simp only [uZ, uS]
           refine tK 154 (i := 4) (v := .pointer (some ⟨(G + 1 + 1), 2, none⟩)) rfl rfl (by kernel_rfl) ?_ hHeld ?_
           ·intro w hSw; clear hSw; go_simp; try with_reducible rfl
           simp only [uZ, uS]
           refine tK 155 (i := 5) (v := .int .i64 n2) rfl rfl (by kernel_rfl) ?_ hHeld ?_
           ·intro w hSw; have hz := hSw.1 _ HL0.out.2.2.2.2.2.2.2.2.2.2.2.1; have c2 := hz.cell 2; simp at c2; clear hz hSw; go_simp; try with_reducible rfl
           simp only [uZ, uS]
           refine tK 156 (i := 6) (v := .pointer (some ⟨(G + 1 + 1), 3, none⟩)) rfl rfl (by kernel_rfl) ?_ hHeld ?_
           ·intro w hSw; clear hSw; go_simp; try with_reducible rfl
           simp only [uZ, uS]
           refine tK 157 (i := 7) (v := .int .i64 n3) rfl rfl (by kernel_rfl) ?_ hHeld ?_
           ·intro w hSw; have hz := hSw.1 _ HL0.out.2.2.2.2.2.2.2.2.2.2.2.1; have c3 := hz.cell 3; simp at c3; clear hz hSw; go_simp; try with_reducible rfl
           simp only [uZ, uS]
           refine wpAnyH_ready (rs := [8, 13]) (by kernel_rfl) (by simp) ?_
           refine AllReadyH.cons rfl (fun K hK => ?_) (AllReadyH.cons rfl (fun K hK => ?_) AllReadyH.nil)
           ·skip
            go_simp
            (with_reducible refine (CPR.out _).mono ?_)
            rintro x y ⟨rfl, hq⟩
            refine hK.out _ _ ⟨hHeld.1.on hq, below_then hHeld.2 hq⟩ (fun hHeld2 => ?_)
            clear hq
            try simp only [Act.put, uA, uZ, uS]
            clear hK K hHeld
            have hHeld := hHeld2
            clear hHeld2
            refine wpAnyH_ready (rs := [9, 13]) (by kernel_rfl) (by simp) ?_
            refine AllReadyH.cons rfl (fun K hK => ?_) (AllReadyH.cons rfl (fun K hK => ?_) AllReadyH.nil)
            ·skip
             go_simp
             (with_reducible refine (CP2.out _ hHeld.be2).mono ?_)
             rintro x y ⟨rfl, hq⟩
             refine hK.out _ _ ⟨hHeld.1.on hq, below_then hHeld.2 hq⟩ (fun hHeld2 => ?_)
             clear hq
             try simp only [Act.put, uA, uZ, uS]
             clear hK K hHeld
             have hHeld := hHeld2
             clear hHeld2
             refine tK 149 (i := 10) (v := .tuple #[.agg #[.int .i64 j0, .int .i64 j1, .int .i64 j2, .int .i64 j3, .int .i64 j4, .int .i64 j5], .int .i64 ej]) rfl rfl (by kernel_rfl) ?_ hHeld ?_
             ·intro w hSw; clear hSw; go_simp; try with_reducible rfl
             simp only [uZ, uS]
             refine tK 160 (i := 11) (v := .agg #[.int .i64 j0, .int .i64 j1, .int .i64 j2, .int .i64 j3, .int .i64 j4, .int .i64 j5]) rfl rfl (by kernel_rfl) ?_ hHeld ?_
             ·intro w hSw; clear hSw; go_simp; try with_reducible rfl
             simp only [uZ, uS]
             refine tK 161 (i := 12) (v := .int .i64 ej) rfl rfl (by kernel_rfl) ?_ hHeld ?_
             ·intro w hSw; clear hSw; go_simp; try with_reducible rfl
             simp only [uZ, uS]
             refine wpAnyH_ready (rs := [13]) (by kernel_rfl) (by simp) ?_
             refine AllReadyH.cons rfl (fun K hK => ?_) AllReadyH.nil
             rename World => yq
             go_simp
             have HDN := Lib.hid (boxes_lt hHeld.1); have HZN := Lib.hid hHeld.2.size; have HY := Lib.hid (hHeld.1.new 55 #[.int .i64 0, .int .i64 0, .int .i64 0, .int .i64 0, .int .i64 0, .int .i64 0])
             refine hK.out _ _ ⟨hHeld.1.on (below_alloc1 _ _), below_then hHeld.2 (below_alloc1 _ _)⟩ (fun hHeld2 => ?_)
             try simp only [Act.put, uA, uZ, uS]
             clear hK K hHeld
             have hHeld := hHeld2
             clear hHeld2
             obtain ⟨yr, hW⟩ : ∃ W', yq.alloc (.cells #[.int .i64 0, .int .i64 0, .int .i64 0, .int .i64 0, .int .i64 0, .int .i64 0] 55) = W' := ⟨_, rfl⟩
             rw [hW] at HY hHeld ⊢
             clear hW
             obtain ⟨N19, hN⟩ : ∃ N, yq.heap.size = N := ⟨_, rfl⟩
             rw [hN] at HY HDN HZN ⊢
             clear hN
             refine wpAnyH_ready (rs := [14]) (by kernel_rfl) (by simp) ?_
             refine AllReadyH.cons rfl (fun K hK => ?_) AllReadyH.nil
             rw [if_pos (by kernel_rfl)]
             rename World => yq
             have HXs : Hid (Boxes (yq.setRow N19 #[.int .i64 j0, .int .i64 j1, .int .i64 j2, .int .i64 j3, .int .i64 j4, .int .i64 j5]) ((N19, 55, #[.int .i64 j0, .int .i64 j1, .int .i64 j2, .int .i64 j3, .int .i64 j4, .int .i64 j5]) :: LB)) := Lib.hid (Boxes.row HY.out (.head _) (fun p hp => ⟨.tail _ hp, HDN.out p hp⟩) #[.int .i64 j0, .int .i64 j1, .int .i64 j2, .int .i64 j3, .int .i64 j4, .int .i64 j5])
             have HEs := Lib.hid (below_setRow hHeld.2 (show z1.heap.size ≤ N19 from HZN.out) #[.int .i64 j0, .int .i64 j1, .int .i64 j2, .int .i64 j3, .int .i64 j4, .int .i64 j5])
             refine wp_store_row 55 (.tmp 23) (.tmp 160) rfl N19 #[.int .i64 j0, .int .i64 j1, .int .i64 j2, .int .i64 j3, .int .i64 j4, .int .i64 j5] rfl rfl 55 _ (HY.out _ (.head _)) (by kernel_rfl) rfl (by kernel_rfl) ?_
             refine hK.out _ _ ⟨hHeld.1.farRow (g := N19) HDN.out _, HEs.out⟩ (fun hHeld2 => ?_)
             try simp only [Act.put, uA, uZ, uS]
             clear hK K hHeld
             have hHeld := hHeld2
             clear hHeld2
             refine tK 24 (i := 15) (v := .int .i64 ej) rfl rfl (by kernel_rfl) ?_ hHeld ?_
             ·intro w hSw; clear hSw; go_simp; try with_reducible rfl
             simp only [uZ, uS]
             refine wpAnyH_done (by kernel_rfl) ?_ _
             clear hHeld
             go_wp2_with fail
             go_meet
             rw [← HLB.out] at HXs
             exact ⟨N19, rfl, rfl, HXs.out, HEs.out⟩
            ·skip
             rename World => yq
             go_simp
             have HDN := Lib.hid (boxes_lt hHeld.1); have HZN := Lib.hid hHeld.2.size; have HY := Lib.hid (hHeld.1.new 55 #[.int .i64 0, .int .i64 0, .int .i64 0, .int .i64 0, .int .i64 0, .int .i64 0])
             refine hK.out _ _ ⟨hHeld.1.on (below_alloc1 _ _), below_then hHeld.2 (below_alloc1 _ _)⟩ (fun hHeld2 => ?_)
             try simp only [Act.put, uA, uZ, uS]
             clear hK K hHeld
             have hHeld := hHeld2
             clear hHeld2
             obtain ⟨yr, hW⟩ : ∃ W', yq.alloc (.cells #[.int .i64 0, .int .i64 0, .int .i64 0, .int .i64 0, .int .i64 0, .int .i64 0] 55) = W' := ⟨_, rfl⟩
             rw [hW] at HY hHeld ⊢
             clear hW
             obtain ⟨N19, hN⟩ : ∃ N, yq.heap.size = N := ⟨_, rfl⟩
             rw [hN] at HY HDN HZN ⊢
             clear hN
             refine wpAnyH_ready (rs := [9]) (by kernel_rfl) (by simp) ?_
             refine AllReadyH.cons rfl (fun K hK => ?_) AllReadyH.nil
             go_simp
             (with_reducible refine (CP2.out _ hHeld.be2).mono ?_)
             rintro x y ⟨rfl, hq⟩
             have HY := Lib.hid (HY.out.on hq)
             refine hK.out _ _ ⟨hHeld.1.on hq, below_then hHeld.2 hq⟩ (fun hHeld2 => ?_)
             clear hq
             try simp only [Act.put, uA, uZ, uS]
             clear hK K hHeld
             have hHeld := hHeld2
             clear hHeld2
             refine tK 149 (i := 10) (v := .tuple #[.agg #[.int .i64 j0, .int .i64 j1, .int .i64 j2, .int .i64 j3, .int .i64 j4, .int .i64 j5], .int .i64 ej]) rfl rfl (by kernel_rfl) ?_ hHeld ?_
             ·intro w hSw; clear hSw; go_simp; try with_reducible rfl
             simp only [uZ, uS]
             refine tK 160 (i := 11) (v := .agg #[.int .i64 j0, .int .i64 j1, .int .i64 j2, .int .i64 j3, .int .i64 j4, .int .i64 j5]) rfl rfl (by kernel_rfl) ?_ hHeld ?_
             ·intro w hSw; clear hSw; go_simp; try with_reducible rfl
             simp only [uZ, uS]
             refine tK 161 (i := 12) (v := .int .i64 ej) rfl rfl (by kernel_rfl) ?_ hHeld ?_
             ·intro w hSw; clear hSw; go_simp; try with_reducible rfl
             simp only [uZ, uS]
             refine wpAnyH_ready (rs := [14]) (by kernel_rfl) (by simp) ?_
             refine AllReadyH.cons rfl (fun K hK => ?_) AllReadyH.nil
             rw [if_pos (by kernel_rfl)]
             rename World => yq
             have HXs : Hid (Boxes (yq.setRow N19 #[.int .i64 j0, .int .i64 j1, .int .i64 j2, .int .i64 j3, .int .i64 j4, .int .i64 j5]) ((N19, 55, #[.int .i64 j0, .int .i64 j1, .int .i64 j2, .int .i64 j3, .int .i64 j4, .int .i64 j5]) :: LB)) := Lib.hid (Boxes.row HY.out (.head _) (fun p hp => ⟨.tail _ hp, HDN.out p hp⟩) #[.int .i64 j0, .int .i64 j1, .int .i64 j2, .int .i64 j3, .int .i64 j4, .int .i64 j5])
             have HEs := Lib.hid (below_setRow hHeld.2 (show z1.heap.size ≤ N19 from HZN.out) #[.int .i64 j0, .int .i64 j1, .int .i64 j2, .int .i64 j3, .int .i64 j4, .int .i64 j5])
             refine wp_store_row 55 (.tmp 23) (.tmp 160) rfl N19 #[.int .i64 j0, .int .i64 j1, .int .i64 j2, .int .i64 j3, .int .i64 j4, .int .i64 j5] rfl rfl 55 _ (HY.out _ (.head _)) (by kernel_rfl) rfl (by kernel_rfl) ?_
             refine hK.out _ _ ⟨hHeld.1.farRow (g := N19) HDN.out _, HEs.out⟩ (fun hHeld2 => ?_)
             try simp only [Act.put, uA, uZ, uS]
             clear hK K hHeld
             have hHeld := hHeld2
             clear hHeld2
             refine tK 24 (i := 15) (v := .int .i64 ej) rfl rfl (by kernel_rfl) ?_ hHeld ?_
             ·intro w hSw; clear hSw; go_simp; try with_reducible rfl
             simp only [uZ, uS]
             refine wpAnyH_done (by kernel_rfl) ?_ _
             clear hHeld
             go_wp2_with fail
             go_meet
             rw [← HLB.out] at HXs
             exact ⟨N19, rfl, rfl, HXs.out, HEs.out⟩
           ·skip
            rename World => yq
            go_simp
            have HDN := Lib.hid (boxes_lt hHeld.1); have HZN := Lib.hid hHeld.2.size; have HY := Lib.hid (hHeld.1.new 55 #[.int .i64 0, .int .i64 0, .int .i64 0, .int .i64 0, .int .i64 0, .int .i64 0])
            refine hK.out _ _ ⟨hHeld.1.on (below_alloc1 _ _), below_then hHeld.2 (below_alloc1 _ _)⟩ (fun hHeld2 => ?_)
            try simp only [Act.put, uA, uZ, uS]
            clear hK K hHeld
            have hHeld := hHeld2
            clear hHeld2
            obtain ⟨yr, hW⟩ : ∃ W', yq.alloc (.cells #[.int .i64 0, .int .i64 0, .int .i64 0, .int .i64 0, .int .i64 0, .int .i64 0] 55) = W' := ⟨_, rfl⟩
            rw [hW] at HY hHeld ⊢
            clear hW
            obtain ⟨N19, hN⟩ : ∃ N, yq.heap.size = N := ⟨_, rfl⟩
            rw [hN] at HY HDN HZN ⊢
            clear hN
            refine wpAnyH_ready (rs := [8]) (by kernel_rfl) (by simp) ?_
            refine AllReadyH.cons rfl (fun K hK => ?_) AllReadyH.nil
            go_simp
            (with_reducible refine (CPR.out _).mono ?_)
            rintro x y ⟨rfl, hq⟩
            have HY := Lib.hid (HY.out.on hq)
            refine hK.out _ _ ⟨hHeld.1.on hq, below_then hHeld.2 hq⟩ (fun hHeld2 => ?_)
            clear hq
            try simp only [Act.put, uA, uZ, uS]
            clear hK K hHeld
            have hHeld := hHeld2
            clear hHeld2
            refine wpAnyH_ready (rs := [9]) (by kernel_rfl) (by simp) ?_
            refine AllReadyH.cons rfl (fun K hK => ?_) AllReadyH.nil
            go_simp
            (with_reducible refine (CP2.out _ hHeld.be2).mono ?_)
            rintro x y ⟨rfl, hq⟩
            have HY := Lib.hid (HY.out.on hq)
            refine hK.out _ _ ⟨hHeld.1.on hq, below_then hHeld.2 hq⟩ (fun hHeld2 => ?_)
            clear hq
            try simp only [Act.put, uA, uZ, uS]
            clear hK K hHeld
            have hHeld := hHeld2
            clear hHeld2
            refine tK 149 (i := 10) (v := .tuple #[.agg #[.int .i64 j0, .int .i64 j1, .int .i64 j2, .int .i64 j3, .int .i64 j4, .int .i64 j5], .int .i64 ej]) rfl rfl (by kernel_rfl) ?_ hHeld ?_
            ·intro w hSw; clear hSw; go_simp; try with_reducible rfl
            simp only [uZ, uS]
            refine tK 160 (i := 11) (v := .agg #[.int .i64 j0, .int .i64 j1, .int .i64 j2, .int .i64 j3, .int .i64 j4, .int .i64 j5]) rfl rfl (by kernel_rfl) ?_ hHeld ?_
            ·intro w hSw; clear hSw; go_simp; try with_reducible rfl
            simp only [uZ, uS]
            refine tK 161 (i := 12) (v := .int .i64 ej) rfl rfl (by kernel_rfl) ?_ hHeld ?_
            ·intro w hSw; clear hSw; go_simp; try with_reducible rfl
            simp only [uZ, uS]
            refine wpAnyH_ready (rs := [14]) (by kernel_rfl) (by simp) ?_
            refine AllReadyH.cons rfl (fun K hK => ?_) AllReadyH.nil
            rw [if_pos (by kernel_rfl)]
            rename World => yq
            have HXs : Hid (Boxes (yq.setRow N19 #[.int .i64 j0, .int .i64 j1, .int .i64 j2, .int .i64 j3, .int .i64 j4, .int .i64 j5]) ((N19, 55, #[.int .i64 j0, .int .i64 j1, .int .i64 j2, .int .i64 j3, .int .i64 j4, .int .i64 j5]) :: LB)) := Lib.hid (Boxes.row HY.out (.head _) (fun p hp => ⟨.tail _ hp, HDN.out p hp⟩) #[.int .i64 j0, .int .i64 j1, .int .i64 j2, .int .i64 j3, .int .i64 j4, .int .i64 j5])
            have HEs := Lib.hid (below_setRow hHeld.2 (show z1.heap.size ≤ N19 from HZN.out) #[.int .i64 j0, .int .i64 j1, .int .i64 j2, .int .i64 j3, .int .i64 j4, .int .i64 j5])
            refine wp_store_row 55 (.tmp 23) (.tmp 160) rfl N19 #[.int .i64 j0, .int .i64 j1, .int .i64 j2, .int .i64 j3, .int .i64 j4, .int .i64 j5] rfl rfl 55 _ (HY.out _ (.head _)) (by kernel_rfl) rfl (by kernel_rfl) ?_
            refine hK.out _ _ ⟨hHeld.1.farRow (g := N19) HDN.out _, HEs.out⟩ (fun hHeld2 => ?_)
            try simp only [Act.put, uA, uZ, uS]
            clear hK K hHeld
            have hHeld := hHeld2
            clear hHeld2
            refine tK 24 (i := 15) (v := .int .i64 ej) rfl rfl (by kernel_rfl) ?_ hHeld ?_
            ·intro w hSw; clear hSw; go_simp; try with_reducible rfl
            simp only [uZ, uS]
            refine wpAnyH_done (by kernel_rfl) ?_ _
            clear hHeld
            go_wp2_with fail
            go_meet
            rw [← HLB.out] at HXs
            exact ⟨N19, rfl, rfl, HXs.out, HEs.out⟩
         case rest =>
          obtain ⟨MJ, rfl, rfl, hX, hB⟩ := hcut
          have HX_20 := Lib.hid hX; have HB_20 := Lib.hid hB
          clear hX hB HX_18 HB_18 CPR CP2
          rename World => zr20
          as_aux_lemma =>
           go_upto_region 19 with fail
           have fa_ := HX_20.out _ (.tail _ (.tail _ (.tail _ (.tail _ (.tail _ (.tail _ (.tail _ (.tail _ (.tail _ (.tail _ (.head _)))))))))))
           have fa_0 := fa_.cell 0
           have fa_1 := fa_.cell 1
           have fa_2 := fa_.cell 2
           have fa_3 := fa_.cell 3
           have fa_4 := fa_.cell 4
           have fa_5 := fa_.cell 5
           simp at fa_0 fa_1 fa_2 fa_3 fa_4 fa_5
           clear fa_
           have fb_ := HX_20.out _ (.tail _ (.tail _ (.tail _ (.tail _ (.tail _ (.tail _ (.tail _ (.tail _ (.tail _ (.tail _ (.tail _ (.head _))))))))))))
           have fb_0 := fb_.cell 0
           have fb_1 := fb_.cell 1
           have fb_2 := fb_.cell 2
           have fb_3 := fb_.cell 3
           have fb_4 := fb_.cell 4
           have fb_5 := fb_.cell 5
           have fb_6 := fb_.cell 6
           have fb_7 := fb_.cell 7
           have fb_8 := fb_.cell 8
           have fb_9 := fb_.cell 9
           have fb_10 := fb_.cell 10
           have fb_11 := fb_.cell 11
           have fb_12 := fb_.cell 12
           have fb_13 := fb_.cell 13
           simp at fb_0 fb_1 fb_2 fb_3 fb_4 fb_5 fb_6 fb_7 fb_8 fb_9 fb_10 fb_11 fb_12 fb_13
           clear fb_
           have fc_ := HX_20.out _ (.tail _ (.tail _ (.tail _ (.tail _ (.head _)))))
           have fc_0 := fc_.cell 0
           have fc_1 := fc_.cell 1
           simp at fc_0 fc_1
           clear fc_
           go_wp2_with fail
           refine (CD1.out _ HB_20.out).mono ?_
           rintro e z21 ⟨rfl, hq⟩
           have HX_21 := Lib.hid ((HX_20.out.on hq).new 55 #[.int .i64 k0, .int .i64 k1, .int .i64 k2, .int .i64 k3, .int .i64 k4, .int .i64 k5]); have HB_21 := Lib.hid (below_then (below_then HB_20.out hq) (below_alloc1 z21 (.cells #[.int .i64 k0, .int .i64 k1, .int .i64 k2, .int .i64 k3, .int .i64 k4, .int .i64 k5] 55)))
           clear hq HX_20 HB_20 fa_0 fa_1 fa_2 fa_3 fa_4 fa_5 fb_0 fb_1 fb_2 fb_3 fb_4 fb_5 fb_6 fb_7 fb_8 fb_9 fb_10 fb_11 fb_12 fb_13 fc_0 fc_1 CD1
           go_upto_region 20 with fail
           obtain ⟨V21, hW⟩ : ∃ W', z21.alloc (.cells #[.int .i64 k0, .int .i64 k1, .int .i64 k2, .int .i64 k3, .int .i64 k4, .int .i64 k5] 55) = W' := ⟨_, rfl⟩
           rw [hW] at HX_21 HB_21  ⊢
           clear hW
           obtain ⟨MK, hN⟩ : ∃ n, z21.heap.size = n := ⟨_, rfl⟩
           rw [hN] at HX_21  ⊢
           clear hN
           have fa_ := HX_21.out _ (.tail _ (.tail _ (.tail _ (.tail _ (.tail _ (.tail _ (.tail _ (.tail _ (.tail _ (.tail _ (.head _)))))))))))
           have fa_0 := fa_.cell 0
           have fa_1 := fa_.cell 1
           have fa_2 := fa_.cell 2
           have fa_3 := fa_.cell 3
           have fa_4 := fa_.cell 4
           have fa_5 := fa_.cell 5
           simp at fa_0 fa_1 fa_2 fa_3 fa_4 fa_5
           clear fa_
           have fb_ := HX_21.out _ (.tail _ (.tail _ (.tail _ (.tail _ (.tail _ (.tail _ (.tail _ (.tail _ (.tail _ (.tail _ (.tail _ (.tail _ (.head _)))))))))))))
           have fb_0 := fb_.cell 0
           have fb_1 := fb_.cell 1
           have fb_2 := fb_.cell 2
           have fb_3 := fb_.cell 3
           have fb_4 := fb_.cell 4
           have fb_5 := fb_.cell 5
           have fb_6 := fb_.cell 6
           have fb_7 := fb_.cell 7
           have fb_8 := fb_.cell 8
           have fb_9 := fb_.cell 9
           have fb_10 := fb_.cell 10
           have fb_11 := fb_.cell 11
           have fb_12 := fb_.cell 12
           have fb_13 := fb_.cell 13
           simp at fb_0 fb_1 fb_2 fb_3 fb_4 fb_5 fb_6 fb_7 fb_8 fb_9 fb_10 fb_11 fb_12 fb_13
           clear fb_
           have fc_ := HX_21.out _ (.tail _ (.tail _ (.tail _ (.tail _ (.head _)))))
           have fc_0 := fc_.cell 0
           have fc_1 := fc_.cell 1
           simp at fc_0 fc_1
           clear fc_
           go_wp2_with fail
           refine (CD2.out _ HB_21.out).mono ?_
           rintro e z22 ⟨rfl, hq⟩
           have HX_22 := Lib.hid ((HX_21.out.on hq).new 55 #[.int .i64 o0, .int .i64 o1, .int .i64 o2, .int .i64 o3, .int .i64 o4, .int .i64 o5]); have HB_22 := Lib.hid (below_then (below_then HB_21.out hq) (below_alloc1 z22 (.cells #[.int .i64 o0, .int .i64 o1, .int .i64 o2, .int .i64 o3, .int .i64 o4, .int .i64 o5] 55)))
           clear hq HX_21 HB_21 fa_0 fa_1 fa_2 fa_3 fa_4 fa_5 fb_0 fb_1 fb_2 fb_3 fb_4 fb_5 fb_6 fb_7 fb_8 fb_9 fb_10 fb_11 fb_12 fb_13 fc_0 fc_1 CD2
           go_upto_region 21 with fail
           obtain ⟨V22, hW⟩ : ∃ W', z22.alloc (.cells #[.int .i64 o0, .int .i64 o1, .int .i64 o2, .int .i64 o3, .int .i64 o4, .int .i64 o5] 55) = W' := ⟨_, rfl⟩
           rw [hW] at HX_22 HB_22  ⊢
           clear hW
           obtain ⟨MO, hN⟩ : ∃ n, z22.heap.size = n := ⟨_, rfl⟩
           rw [hN] at HX_22  ⊢
           clear hN
           go_cut [29] (fun sb wx => sb = .bool true ∧ Boxes wx [(MO, 55, #[.int .i64 o0, .int .i64 o1, .int .i64 o2, .int .i64 o3, .int .i64 o4, .int .i64 o5]), (MK, 55, #[.int .i64 k0, .int .i64 k1, .int .i64 k2, .int .i64 k3, .int .i64 k4, .int .i64 k5]), (MJ, 55, #[.int .i64 j0, .int .i64 j1, .int .i64 j2, .int .i64 j3, .int .i64 j4, .int .i64 j5]), (MI, 55, #[.int .i64 i0, .int .i64 i1, .int .i64 i2, .int .i64 i3, .int .i64 i4, .int .i64 i5]), (MR, 30, #[.int .i64 r0, .int .i64 r1]), (ML, 30, #[.int .i64 l0, .int .i64 l1]), (MM, 30, #[.int .i64 ma, .int .i64 mc]), (MD, 30, #[.int .i64 b4, .int .i64 b5]), (MC, 30, #[.int .i64 a4, .int .i64 a5]), (MB, 74, #[.int .i64 b0, .int .i64 b1, .int .i64 al, .int .i64 ah, .int .i64 b2, .int .i64 b3]), (MA, 74, #[.int .i64 a0, .int .i64 a1, .int .i64 al, .int .i64 ah, .int .i64 a2, .int .i64 a3]), (MG, 55, #[.int .i64 fh, .int .i64 fs, .int .i64 P0, .int .i64 P1, .int .i64 D0, .int .i64 D1]), (MF, 55, #[.int .i64 fh, .int .i64 fs, .int .i64 p0, .int .i64 p1, .int .i64 d0, .int .i64 d1]), (MH, 35, #[.int .i64 hid, .int .i64 al, .int .i64 ah, .slice A n c, .slice B mm d, .slice C l ee, .int .i64 t0, .int .i64 t1, .int .i64 u0, .int .i64 u1, .int .i64 v0, .int .i64 v1, .int .i64 h0, .int .i64 h1]), ((G + 1 + 1), 70, #[.int .i64 n0, .int .i64 n1, .int .i64 n2, .int .i64 n3, .int .i64 n4, .int .i64 n5, .int .i64 n6, .int .i64 n7]), ((G + 1), 53, #[.int .i64 x0, .int .i64 x1, .int .i64 x2, .int .i64 x3, .int .i64 x4]), (G, 24, #[.int .i64 id, .int .i64 fi, .slice S sn sc, .slice V vn vc])] ∧ Below z1.heap.size z1 wx)
           case first =>
            as_aux_lemma =>
             by_cases g0 : ej = 0
             rotate_left
             ·have b0 : (ej != 0) = true := by simpa using g0
              clear g0
              go_wp2_with fail
              go_meet
              exact ⟨rfl, HX_22.out, HB_22.out⟩
             have hq0 := HPO.out g0
             subst g0
             obtain ⟨z0, z1, z2, z3, z4⟩ := hq0
             have HZ := Lib.hid (And.intro z1 (And.intro z2 (And.intro z3 z4)))
             subst z0
             clear z1 z2 z3 z4
             have fa_ := HX_22.out _ (.tail _ (.tail _ (.tail _ (.head _))))
             have fa_2 := fa_.cell 2
             have fa_3 := fa_.cell 3
             simp at fa_2 fa_3
             clear fa_
             have fb_ := HX_22.out _ (.tail _ (.tail _ (.head _)))
             have fb_2 := fb_.cell 2
             have fb_3 := fb_.cell 3
             simp at fb_2 fb_3
             clear fb_
             go_wp2_with fail
             refine (sInside_yes j2 j3 i2 i3 _ HZ.out.1 HZ.out.2.1).mono ?_
             rintro e zi0 ⟨rfl, hq⟩
             have HXi0 := Lib.hid (HX_22.out.on hq); have HBi0 := Lib.hid (below_then HB_22.out hq)
             clear hq fa_2 fa_3 fb_2 fb_3
             have fa_ := HXi0.out _ (.tail _ (.tail _ (.tail _ (.head _))))
             have fa_4 := fa_.cell 4
             have fa_5 := fa_.cell 5
             simp at fa_4 fa_5
             clear fa_
             have fb_ := HXi0.out _ (.tail _ (.tail _ (.head _)))
             have fb_4 := fb_.cell 4
             have fb_5 := fb_.cell 5
             simp at fb_4 fb_5
             clear fb_
             go_wp2_with fail
             refine (sInside_yes j4 j5 i4 i5 _ HZ.out.2.2.1 HZ.out.2.2.2).mono ?_
             rintro e zi1 ⟨rfl, hq⟩
             have HXi1 := Lib.hid (HXi0.out.on hq); have HBi1 := Lib.hid (below_then HBi0.out hq)
             clear hq fa_4 fa_5 fb_4 fb_5
             go_wp2_with fail
             go_meet
             exact ⟨rfl, HXi1.out, HBi1.out⟩
           case rest =>
            obtain ⟨rfl, hX, hB⟩ := hcut
            clear HX_22 HB_22
            have HX_23 := Lib.hid hX; have HB_23 := Lib.hid hB
            clear hX hB HPO
            rename World => zr23
            as_aux_lemma =>
             go_upto_region 22 with fail
             go_cut [30] (fun sb wx => sb = .bool true ∧ Boxes wx [(MO, 55, #[.int .i64 o0, .int .i64 o1, .int .i64 o2, .int .i64 o3, .int .i64 o4, .int .i64 o5]), (MK, 55, #[.int .i64 k0, .int .i64 k1, .int .i64 k2, .int .i64 k3, .int .i64 k4, .int .i64 k5]), (MJ, 55, #[.int .i64 j0, .int .i64 j1, .int .i64 j2, .int .i64 j3, .int .i64 j4, .int .i64 j5]), (MI, 55, #[.int .i64 i0, .int .i64 i1, .int .i64 i2, .int .i64 i3, .int .i64 i4, .int .i64 i5]), (MR, 30, #[.int .i64 r0, .int .i64 r1]), (ML, 30, #[.int .i64 l0, .int .i64 l1]), (MM, 30, #[.int .i64 ma, .int .i64 mc]), (MD, 30, #[.int .i64 b4, .int .i64 b5]), (MC, 30, #[.int .i64 a4, .int .i64 a5]), (MB, 74, #[.int .i64 b0, .int .i64 b1, .int .i64 al, .int .i64 ah, .int .i64 b2, .int .i64 b3]), (MA, 74, #[.int .i64 a0, .int .i64 a1, .int .i64 al, .int .i64 ah, .int .i64 a2, .int .i64 a3]), (MG, 55, #[.int .i64 fh, .int .i64 fs, .int .i64 P0, .int .i64 P1, .int .i64 D0, .int .i64 D1]), (MF, 55, #[.int .i64 fh, .int .i64 fs, .int .i64 p0, .int .i64 p1, .int .i64 d0, .int .i64 d1]), (MH, 35, #[.int .i64 hid, .int .i64 al, .int .i64 ah, .slice A n c, .slice B mm d, .slice C l ee, .int .i64 t0, .int .i64 t1, .int .i64 u0, .int .i64 u1, .int .i64 v0, .int .i64 v1, .int .i64 h0, .int .i64 h1]), ((G + 1 + 1), 70, #[.int .i64 n0, .int .i64 n1, .int .i64 n2, .int .i64 n3, .int .i64 n4, .int .i64 n5, .int .i64 n6, .int .i64 n7]), ((G + 1), 53, #[.int .i64 x0, .int .i64 x1, .int .i64 x2, .int .i64 x3, .int .i64 x4]), (G, 24, #[.int .i64 id, .int .i64 fi, .slice S sn sc, .slice V vn vc])] ∧ Below z1.heap.size z1 wx)
             case first =>
              as_aux_lemma =>
               by_cases g0 : eo = 0
               rotate_left
               ·have b0 : (eo != 0) = true := by simpa using g0
                clear g0
                go_wp2_with fail
                go_meet
                exact ⟨rfl, HX_23.out, HB_23.out⟩
               have hq0 := HDR.out g0
               subst g0
               obtain ⟨z0, z1, z2⟩ := hq0
               have HZ := Lib.hid (And.intro z1 z2)
               subst z0
               clear z1 z2
               have fa_ := HX_23.out _ (.tail _ (.head _))
               have fa_2 := fa_.cell 2
               have fa_3 := fa_.cell 3
               simp at fa_2 fa_3
               clear fa_
               have fb_ := HX_23.out _ (.head _)
               have fb_2 := fb_.cell 2
               have fb_3 := fb_.cell 3
               simp at fb_2 fb_3
               clear fb_
               go_wp2_with fail
               refine (sInside_yes o2 o3 k2 k3 _ HZ.out.1 HZ.out.2).mono ?_
               rintro e zi0 ⟨rfl, hq⟩
               have HXi0 := Lib.hid (HX_23.out.on hq); have HBi0 := Lib.hid (below_then HB_23.out hq)
               clear hq fa_2 fa_3 fb_2 fb_3
               go_wp2_with fail
               go_meet
               exact ⟨rfl, HXi0.out, HBi0.out⟩
             case rest =>
              obtain ⟨rfl, hX, hB⟩ := hcut
              clear HX_23 HB_23
              have HX_24 := Lib.hid hX; have HB_24 := Lib.hid hB
              clear hX hB HDR
              rename World => zr24
              as_aux_lemma =>
               go_wp2_with fail
               refine (msane_any _).mono ?_
               rintro e zz ⟨rfl, hq⟩
               have HBz := Lib.hid (below_then HB_24.out hq)
               clear hq
               go_wp2
               go_ret
               exact ⟨rfl, below_then HQ_1.out HBz.out⟩
end

section
open Go.ChangeShapes Go.WideShapes Go.ChangeAt Go.RowKit Go.Joins

set_option maxRecDepth 100000 in
theorem holdNarrower_lifted (os : Os) (started : os.Started) (H : Type) (enc : TypeId × Value → H) :
    ReturnsInHanded {} Tryz.checked os 7 .any (Rows.holdNarrowerSpec.pre6 enc Tryz.prog Tryz.f7 Rows.holdNarrowerRow.domain false) (Rows.holdNarrowerSpec.post enc Tryz.prog Tryz.f7 false true false false) := by
  refine returnsInHanded_of_change_sized (C := Tryz.checked) own started (by kernel_rfl) Tryz.func7
    (ChangeSpec.witness6 (enc := enc) (C := Tryz.checked) false ⟨#[], #[.agg #[.int .i64 0, .int .i64 0, .slice none 0 0, .slice none 0 0], .agg #[.int .i64 0, .int .i64 0, .int .i64 0, .int .i64 0, .int .i64 0], .agg #[.int .i64 0, .int .i64 0, .int .i64 0, .int .i64 0, .int .i64 0, .int .i64 0, .int .i64 0, .int .i64 0]], []⟩ 8 (by kernel_rfl) (by kernel_rfl) (by kernel_rfl) (by kernel_rfl)) ?_
  intro W base args ds gs before hval0 hW hcnd hsz _
  have hval : ∀ (j : Nat) t v, Tryz.f7.params[j]? = some t → args[j]? = some v → Value.okWide Tryz.prog W .any base t v := hval0
  have hW' := hW
  obtain ⟨p, q, hA0, hV, rfl, hfz, hnd⟩ := hW
  have hA : DataW.TrodAll enc Tryz.prog W 0 (fun _ => true) true Tryz.f7.params.toList args.toList ds p := hA0
  rw [Tryz.params7] at hA hval
  have hsz2 : (DataW.weightsEach Tryz.prog (Tryz.f7.params.toList ++ Rows.holdNarrowerSpec.plain.varTypes Tryz.prog) (ds ++ gs)).all (· ≤ reachBytes) = true := hsz
  rw [Tryz.params7] at hsz2
  obtain ⟨v0, v1, v2, d0, d1, d2, p0, p1, p2, hargs, rfl, rfl, h0, h1, h2⟩ := trodAll_three hA
  obtain rfl : args = #[v0, v1, v2] := by cases args; simp_all
  obtain ⟨rfl, rfl⟩ := trodVars_none hV
  have light : ∀ (j : Nat) (t : TypeId) (d : DataW H), ([24, 53, 70] : List TypeId)[j]? = some t → ([d0, d1, d2] : List (DataW H))[j]? = some d → Light t d := fun j t d ht hd n hn => by
    have q := List.all_eq_true.1 hsz2 n (DataW.weights_mem_each (j := j) (t := t) (d := d) (by
      have := List.getElem?_eq_some_iff.1 ht
      obtain ⟨hl, _⟩ := this
      rw [List.getElem?_append_left (by simpa using hl)]
      simpa using ht) (by
      have := List.getElem?_eq_some_iff.1 hd
      obtain ⟨hl, _⟩ := this
      rw [List.getElem?_append_left (by simpa using hl)]
      simpa using hd) n hn)
    simpa using q
  obtain ⟨r, m, rfl, hi⟩ := open_raw (hval 0 24 v0 rfl rfl) h0 (light 0 _ d0 rfl rfl)
  obtain ⟨x0, x1, x2, x3, x4, rfl⟩ := open_five (hval 1 53 v1 rfl rfl) h1
  obtain ⟨n0, n1, n2, n3, n4, n5, n6, n7, rfl⟩ := open_eight (hval 2 70 v2 rfl rfl) h2
  refine (holdNarrower_walk r m x0 x1 x2 x3 x4 n0 n1 n2 n3 n4 n5 n6 n7 W hi).mono fun e W' ⟨he, hb⟩ => ?_
  subst he
  exact ⟨_, rfl, law_post rfl rfl (by intro t ht; rw [Tryz.params7] at ht
                                      have : t = 24 ∨ t = 53 ∨ t = 70 := by simpa using ht
                                      rcases this with rfl | rfl | rfl <;> exact ⟨by kernel_rfl, of_decide_eq_true (by kernel_rfl)⟩) hW' rfl rfl rfl hb⟩

theorem holdNarrower_holds : Rows.HoldNarrowerSaid :=
  OpenClaim.holds_of_wide 7 Tryz.f7 rfl rfl rfl rfl rfl rfl rfl ⟨rfl, rfl, rfl, rfl, rfl⟩ rfl rfl rfl rfl rfl (by kernel_rfl) Tryz.func7 (by kernel_rfl)
    (of_decide_eq_true (by kernel_rfl)) (by unfold Func.isWrapper; rw [if_neg (of_decide_eq_false (by kernel_rfl))]; exact ⟨rfl, rfl⟩)
    (fun os started H enc _ => holdNarrower_lifted os started H enc)
end

end Go.Proofs.YtemlaaipnhmcoaaGreat
