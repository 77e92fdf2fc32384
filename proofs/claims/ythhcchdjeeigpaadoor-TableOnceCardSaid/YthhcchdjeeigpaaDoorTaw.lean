/- Contract of the statements' awake of layer 8; two keys held against one another; what a play told, read. -/
import Derived.Test.YthhcchdjeeigpaaDoorTfull
import Derived.Test.YthhcchdjeeigpaaDoorInts
import Derived.Deep.RegionHeld3
namespace Go.Proofs.YthhcchdjeeigpaaDoor
open Go.RowKit Go.Maps
set_option linter.unusedVariables false
set_option linter.unusedSimpArgs false

theorem Tryd.kyDeep : Tryd.prog.keyTypeAt 2 57 = true := by kernel_rfl
theorem Tryd.kyGuard : Tryd.prog.eqGuardType Tryd.prog.depth 57 = false := by kernel_rfl

theorem ky_guard_eq (x y : Operand) (a b : Array Value) (w : World) : (eqGuard .eql 57 x y (.agg a) (.agg b)).run Tryd.prog w = .ok () w := by
  simp [eqGuard, Tryd.kyGuard, Result.andThen]
theorem ky_guard_ne (x y : Operand) (a b : Array Value) (w : World) : (eqGuard .neq 57 x y (.agg a) (.agg b)).run Tryd.prog w = .ok () w := by
  simp [eqGuard, Tryd.kyGuard, Result.andThen]
set_option maxRecDepth 100000 in
theorem ky_equal {a b : Ky} (w : World) (ha : kfit a) (hb : kfit b) : (Op.equal 57 (kval a) (kval b)).run Tryd.prog w = .ok (decide (a = b)) w := by
  obtain ⟨la, hla⟩ := ky_key ha
  obtain ⟨lb, hlb⟩ := ky_key hb
  obtain ⟨r, hr, hiff⟩ := run_equal_deep (P := Tryd.prog) w (m := 2) (by omega) Tryd.kyDeep Tryd.kyWide hla hlb
  rw [hr]
  congr 1
  by_cases e : a = b
  · subst e
    rw [hla] at hlb
    have : la = lb := Option.some.inj hlb
    rw [hiff.2 this]; simp
  · have : r ≠ true := fun q => e (by
      have := hiff.1 q
      subst this
      exact kval_inj (Tryd.kyKeyed.inj hla hlb))
    simp [this, e]
theorem ky_eq {a b : Ky} (w : World) (ha : kfit a) (hb : kfit b) : (binOp .eql 57 (.agg #[.string a.s, .int .i64 a.a, .int .i64 a.b]) (.agg #[.string b.s, .int .i64 b.a, .int .i64 b.b])).run Tryd.prog w = .ok (.bool (decide (a = b))) w := by
  have := ky_equal w ha hb
  unfold kval at this
  simp [binOp, this, Result.andThen]
theorem ky_ne {a b : Ky} (w : World) (ha : kfit a) (hb : kfit b) : (binOp .neq 57 (.agg #[.string a.s, .int .i64 a.a, .int .i64 a.b]) (.agg #[.string b.s, .int .i64 b.a, .int .i64 b.b])).run Tryd.prog w = .ok (.bool (!decide (a = b))) w := by
  have := ky_equal w ha hb
  unfold kval at this
  simp [binOp, this, Result.andThen]

/-- The list that worker i was told, read. -/
theorem TRes.got {w : World} {B0 W gg i : Nat} {kv : Value} {gs : List Value} {g : Tg} (h : TRes w B0 W gg kv gs g) (hi : i < W) : ∃ a c, w.cell? ⟨gg, i, none⟩ = some (.slice a (g.tw i).got.length c) ∧ Row B0 w.heap.size w a (g.tw i).got.length (g.tw i).got := by
  obtain ⟨h1, h2, h3, h4, h5, h6⟩ := h
  obtain ⟨gv, hg⟩ : ∃ gv, gs[i]? = some gv := ⟨_, List.getElem?_eq_getElem (by omega)⟩
  have hk := Tg.tw_get (g := g) (w := i) (by omega)
  obtain ⟨a, c, e, hr⟩ := RowF.of_owns (f := Value.int .i64) (d := (0 : Int)) (h5 i _ gv hk hg)
  subst e
  refine ⟨a, c, ?_, hr⟩
  have := (h4.2 i [.slice a (g.tw i).got.length c] (by rw [List.getElem?_map, hg]; rfl) 0 _ rfl).1
  simpa using this
/-- The table, read. -/
theorem TRes.keys {w : World} {B0 W gg : Nat} {kv : Value} {gs : List Value} {g : Tg} (h : TRes w B0 W gg kv gs g) : ∃ a c, kv = .slice a g.keys.length c ∧ Sl 3 B0 w.heap.size w a g.keys.length (g.keys.map kcell) := by
  obtain ⟨h1, h2, h3, h4, h5, h6⟩ := h
  obtain ⟨a, c, e, _, hs⟩ := Sl.of_owns kcell_length h6 rfl
  exact ⟨a, c, e, hs⟩
theorem TRes.below {w w' : World} {B0 W gg : Nat} {kv : Value} {gs : List Value} {g : Tg} (h : TRes w B0 W gg kv gs g) (hb : Below w.heap.size w w') : TRes w' B0 W gg kv gs g := by
  obtain ⟨h1, h2, h3, h4, h5, h6⟩ := h
  exact ⟨h1, h2, h3, h4.agree (hb.block gg h4.1) hb.size, fun i k gv hk hg => ownsRow_below (h5 i k gv hk hg) hb, ownsRow_below h6 hb⟩

def kA : Ky := ⟨⟨#[97]⟩, 1, 0⟩
theorem kA_fit : kfit kA := ⟨by unfold tfit; decide, by unfold tfit; decide, by unfold maxLen; decide⟩
theorem awk_state (n : Int) : ((ttAt (sg n) 5 [] [[kA, kA]] 6).tw 0).got = [0, 0] ∧ (ttAt (sg n) 5 [] [[kA, kA]] 6).keys = [kA] := by
  have h1 := (tone (sg n) 5 [] [kA, kA] 6).ws
  have h2 := tt_end (sg n) 5 [] [[kA, kA]]
  have h3 := (h2.got 0 [kA, kA] rfl).1
  obtain ⟨k, hk, hks, hg⟩ := h1
  have hu : ttEnd (sg n) 5 [] [[kA, kA]] = ttAt (sg n) 5 [] [[kA, kA]] 6 := rfl
  rw [hu] at h3
  have ht : (ttAt (sg n) 5 [] [[kA, kA]] 6).tw 0 = k := by unfold Tg.tw; rw [hk]; rfl
  rw [ht] at h3 ⊢
  have hl : k.got.length = 2 := h3
  refine ⟨?_, by rw [hks, hl]; decide⟩
  obtain ⟨a, b, hab⟩ : ∃ a b, k.got = [a, b] := by
    match hq : k.got, hl with
    | [a, b], _ => exact ⟨a, b, rfl⟩
  have e1 := hg 0 a kA (by rw [hab]; rfl) rfl
  have e2 := hg 1 b kA (by rw [hab]; rfl) rfl
  rw [hab, e1, e2]
  decide

theorem kscr_one (w : World) : KScr (((w.alloc (.cells #[.string ⟨#[97]⟩, .int .i64 1, .int .i64 0] 57)).alloc (.cells #[.string ⟨#[97]⟩, .int .i64 1, .int .i64 0, .string ⟨#[97]⟩, .int .i64 1, .int .i64 0] 57)).alloc (.cells #[.slice (some ⟨w.heap.size + 1, 0, none⟩) 2 2] 55)).heap.size
    (((w.alloc (.cells #[.string ⟨#[97]⟩, .int .i64 1, .int .i64 0] 57)).alloc (.cells #[.string ⟨#[97]⟩, .int .i64 1, .int .i64 0, .string ⟨#[97]⟩, .int .i64 1, .int .i64 0] 57)).alloc (.cells #[.slice (some ⟨w.heap.size + 1, 0, none⟩) 2 2] 55)) (some ⟨w.heap.size + 1 + 1, 0, none⟩) 1 [[kA, kA]] := by
  have b1 := (Box.new (w.alloc (.cells #[.string ⟨#[97]⟩, .int .i64 1, .int .i64 0] 57)) 57 [.string ⟨#[97]⟩, .int .i64 1, .int .i64 0, .string ⟨#[97]⟩, .int .i64 1, .int .i64 0]).alloc (.cells #[.slice (some ⟨w.heap.size + 1, 0, none⟩) 2 2] 55)
  have b2 := Box.new ((w.alloc (.cells #[.string ⟨#[97]⟩, .int .i64 1, .int .i64 0] 57)).alloc (.cells #[.string ⟨#[97]⟩, .int .i64 1, .int .i64 0, .string ⟨#[97]⟩, .int .i64 1, .int .i64 0] 57)) 55 [.slice (some ⟨w.heap.size + 1, 0, none⟩) 2 2]
  rw [World.size_alloc] at b1
  rw [World.size_alloc, World.size_alloc] at b2
  refine ⟨rfl, .inr ⟨w.heap.size + 1 + 1, 0, rfl, by simp, fun i s hs => ?_⟩⟩
  have hi : i = 0 := by have := (List.getElem?_eq_some_iff.1 hs).1; simp at this; exact this
  subst hi
  simp at hs
  subst hs
  refine ⟨_, _, b2.cell 0, rfl, .inr ⟨w.heap.size + 1, 0, rfl, Nat.zero_le _, by simp, fun i x hx j v hv => ?_⟩⟩
  have hi : i = 0 ∨ i = 1 := by have := (List.getElem?_eq_some_iff.1 hx).1; simp at this; omega
  have hxk : x = kcell kA := by rcases hi with rfl | rfl <;> (simp at hx; exact hx.symm)
  subst hxk
  have hj : j = 0 ∨ j = 1 ∨ j = 2 := by have := (List.getElem?_eq_some_iff.1 hv).1; simp [kcell] at this; omega
  rcases hi with rfl | rfl <;> rcases hj with rfl | rfl | rfl <;> exact (b1.cell _).trans hv

set_option maxRecDepth 100000 in
set_option maxHeartbeats 4000000 in
theorem awake_any8 (w : World) (hT : Tab w) : Calls Tryd.prog 27 #[] w fun e w' => e = .returned (.bool true) ∧ Below w.heap.size w w' := by
  have HT := Lib.hid hT
  clear hT
  go_enter Tryd.func27, Tryd.ntmps27
  go_wp2_with fail
  have hbg : Below w.heap.size w (((w.alloc (.cells #[.string ⟨#[97]⟩, .int .i64 1, .int .i64 0] 57)).alloc (.cells #[.string ⟨#[97]⟩, .int .i64 1, .int .i64 0, .string ⟨#[97]⟩, .int .i64 1, .int .i64 0] 57)).alloc (.cells #[.slice (some ⟨w.heap.size + 1, 0, none⟩) 2 2] 55)) := (((Below.refl _ w).alloc (Nat.le_refl _) _).alloc (by simp) _).alloc (by simp; omega) _
  have hTg := HT.out.below hbg HT.out.lt
  have hks := kscr_one w
  have b0 := ((Box.new w 57 [.string ⟨#[97]⟩, .int .i64 1, .int .i64 0]).alloc (.cells #[.string ⟨#[97]⟩, .int .i64 1, .int .i64 0, .string ⟨#[97]⟩, .int .i64 1, .int .i64 0] 57)).alloc (.cells #[.slice (some ⟨w.heap.size + 1, 0, none⟩) 2 2] 55)
  have hsg : w.heap.size + 3 = (((w.alloc (.cells #[.string ⟨#[97]⟩, .int .i64 1, .int .i64 0] 57)).alloc (.cells #[.string ⟨#[97]⟩, .int .i64 1, .int .i64 0, .string ⟨#[97]⟩, .int .i64 1, .int .i64 0] 57)).alloc (.cells #[.slice (some ⟨w.heap.size + 1, 0, none⟩) 2 2] 55)).heap.size := by simp
  generalize ((w.alloc (.cells #[.string ⟨#[97]⟩, .int .i64 1, .int .i64 0] 57)).alloc (.cells #[.string ⟨#[97]⟩, .int .i64 1, .int .i64 0, .string ⟨#[97]⟩, .int .i64 1, .int .i64 0] 57)).alloc (.cells #[.slice (some ⟨w.heap.size + 1, 0, none⟩) 2 2] 55) = w3 at *
  refine (tplay_any (some ⟨w.heap.size + 1 + 1, 0, none⟩) none 1 1 0 0 [[kA, kA]] [] 5 3 w3 hks (Nat.le_refl _) (lx := 0) (hx := 0) ⟨rfl, .inl rfl⟩ (Nat.zero_le _) (by omega) (by decide) (by omega) (fun s hs k hk => by simp at hs; subst hs; simp at hk; subst hk; exact kA_fit) hTg 6 (by decide)).mono ?_
  rintro e w4 ⟨gg, kv, gs, rfl, hres, hb4⟩
  have hst := awk_state 3
  obtain ⟨ga, gc, hgc, hgr⟩ := hres.got (i := 0) (by omega)
  obtain ⟨ka, kc, rfl, hkr⟩ := hres.keys
  rw [hst.1] at hgc hgr
  rw [hst.2] at hkr ⊢
  have k0 : kcell kA = [.string ⟨#[97]⟩, .int .i64 1, .int .i64 0] := rfl
  obtain ⟨_, hk2⟩ := hkr
  obtain ⟨kb, ko, rfl, hkb1, hkb2, hkb3⟩ := hk2.resolve_left (by simp)
  have hkx := fun j v h => hkb3 0 [.string ⟨#[97]⟩, .int .i64 1, .int .i64 0] (by rw [← k0]; rfl) j v h
  have s4 := hb4.size
  have b4 : Box w4 w.heap.size 57 [.string ⟨#[97]⟩, .int .i64 1, .int .i64 0] := b0.below (hb4.mono (by rw [← hsg]; omega))
  have c0 : w4.cell? ⟨kb, ko, none⟩ = some (.string ⟨#[97]⟩) := by simpa using hkx 0 (.string ⟨#[97]⟩) rfl
  have c1 : w4.cell? ⟨kb, ko + 1, none⟩ = some (.int .i64 1) := by simpa using hkx 1 (.int .i64 1) rfl
  have c2 : w4.cell? ⟨kb, ko + 2, none⟩ = some (.int .i64 0) := by simpa using hkx 2 (.int .i64 0) rfl
  have hgg : gg < w4.heap.size := hres.2.2.2.1.1
  have d0 : w4.cell? ⟨w.heap.size, 0, none⟩ = some (.string ⟨#[97]⟩) := b4.cell 0
  have d1 : w4.cell? ⟨w.heap.size, 1, none⟩ = some (.int .i64 1) := b4.cell 1
  have d2 : w4.cell? ⟨w.heap.size, 2, none⟩ = some (.int .i64 0) := b4.cell 2
  have hw4 : w.heap.size < w4.heap.size := by omega
  have b11 := (Box.new w4 3 [.int .i64 0, .int .i64 0])
  have r11 : RowN w4.heap.size (w4.alloc (.cells #[.int .i64 0, .int .i64 0] 3)).heap.size (w4.alloc (.cells #[.int .i64 0, .int .i64 0] 3)) (some ⟨w4.heap.size, 0, none⟩) 2 [0, 0] := by
    refine ⟨rfl, .inr ⟨w4.heap.size, 0, rfl, Nat.le_refl _, by simp, fun i hi => ?_⟩⟩
    have : i = 0 ∨ i = 1 := by omega
    rcases this with rfl | rfl
    · exact b11.cell 0
    · exact b11.cell 1
  have hra : Row w3.heap.size w4.heap.size (w4.alloc (.cells #[.int .i64 0, .int .i64 0] 3)) ga 2 [0, 0] := RowF.below hgr ((Below.refl _ _).alloc (Nat.le_refl _) _) (Nat.le_refl _)
  have hgc' : w4.cell? ⟨gg, 0, none⟩ = some (.slice ga 2 gc) := hgc
  have HI : Hid (Calls Tryd.prog 19 #[.slice ga 2 gc, .slice (some ⟨w4.heap.size, 0, none⟩) 2 2] (w4.alloc (.cells #[.int .i64 0, .int .i64 0] 3)).drew fun e w' => e = .returned (.bool true) ∧ Below w4.heap.size w4 w') := by
    have := ints_any _ _ 2 2 gc 2 _ _ _ hra.drew r11.ints.drew (by omega)
    refine Calls.mono this ?_
    rintro e w' ⟨rfl, n, rfl⟩
    exact ⟨by simp, below_drewN' ((Below.refl _ _).alloc (Nat.le_refl _) _).drew _⟩
  have K : ∀ w', Below w4.heap.size w4 w' → (Below w4.heap.size w4 w' ∧ w'.cell? ⟨gg, 0, none⟩ = some (.slice ga 2 gc) ∧ w'.cell? ⟨kb, ko, none⟩ = some (.string ⟨#[97]⟩) ∧ w'.cell? ⟨kb, ko + 1, none⟩ = some (.int .i64 1) ∧ w'.cell? ⟨kb, ko + 2, none⟩ = some (.int .i64 0)
      ∧ w'.cell? ⟨w.heap.size, 0, none⟩ = some (.string ⟨#[97]⟩) ∧ w'.cell? ⟨w.heap.size, 1, none⟩ = some (.int .i64 1) ∧ w'.cell? ⟨w.heap.size, 2, none⟩ = some (.int .i64 0)) := fun w' h =>
    ⟨h, (World.cell?_of_block (h.block gg hgg)).trans hgc', (World.cell?_of_block (h.block kb hkb2)).trans c0, (World.cell?_of_block (h.block kb hkb2)).trans c1, (World.cell?_of_block (h.block kb hkb2)).trans c2,
      (World.cell?_of_block (h.block w.heap.size hw4)).trans d0, (World.cell?_of_block (h.block w.heap.size hw4)).trans d1, (World.cell?_of_block (h.block w.heap.size hw4)).trans d2⟩
  have HK := Lib.hid K
  have HB4 : Hid (Below w.heap.size w w4) := hbg.trans (hb4.mono (by omega))
  have hG := ky_guard_eq
  have hE : ∀ W : World, (binOp .eql 57 (.agg #[.string ⟨#[97]⟩, .int .i64 1, .int .i64 0]) (.agg #[.string ⟨#[97]⟩, .int .i64 1, .int .i64 0])).run Tryd.prog W = .ok (.bool true) W := fun W => by
    have := ky_eq (a := kA) (b := kA) W kA_fit kA_fit
    simpa [kA] using this
  clear hsg s4 hgc hgr hk2 hkb3 hkx hst hres hb4 hbg hTg hks b0 b4 b11 r11 hra k0 K c0 c1 c2 d0 d1 d2 hgc'
  simp only [List.length_cons, List.length_nil, Nat.zero_add]
  go_wp2_with fail
  go_loud (go_region_held3 (fun w' => Below w4.heap.size w4 w' ∧ w'.cell? ⟨gg, 0, none⟩ = some (.slice ga 2 gc) ∧ w'.cell? ⟨kb, ko, none⟩ = some (.string ⟨#[97]⟩) ∧ w'.cell? ⟨kb, ko + 1, none⟩ = some (.int .i64 1) ∧ w'.cell? ⟨kb, ko + 2, none⟩ = some (.int .i64 0)
      ∧ w'.cell? ⟨w.heap.size, 0, none⟩ = some (.string ⟨#[97]⟩) ∧ w'.cell? ⟨w.heap.size, 1, none⟩ = some (.int .i64 1) ∧ w'.cell? ⟨w.heap.size, 2, none⟩ = some (.int .i64 0))
    ((with_reducible apply HK.out
      first
      | ((with_reducible apply Below.drew); (with_reducible exact Below.refl _ _))
      | (with_reducible exact hbz)
      | ((with_reducible apply below_alloc (And.left (by assumption)) (Nat.le_refl _)))
      | ((with_reducible apply Below.drew); (with_reducible apply below_alloc (Below.refl _ _) (Nat.le_refl _)))))
    (first
      | (go_at_call 19; (with_reducible refine (HI.out).mono ?_); rintro e wz ⟨rfl, hbz⟩)
      | fail))
  go_wp2_with fail
  go_ret
  exact ⟨rfl, HB4.out.trans (hbz.mono (by have := HB4.out.size; omega))⟩

end Go.Proofs.YthhcchdjeeigpaaDoor
