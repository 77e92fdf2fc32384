/- The walk of the law TableOnce: it returns true and changes nothing that was there. -/
import Derived.Test.YthhcchdjeeigpaaDoorTfact
import Derived.Deep.RegionHeld3
namespace Go.Proofs.YthhcchdjeeigpaaDoor
open Go.RowKit Go.Maps
set_option linter.unusedVariables false
set_option linter.unusedSimpArgs false

theorem tend_room {room : Int} {ss : List (List Ky)} {g : Tg} (h : TEnd room ss g) (h0 : 0 ≤ room) : (g.keys.length : Int) ≤ room := by
  rcases h.room with h | h
  · rw [h]; exact h0
  · exact h
/-- Two places of the table hold two keys. -/
theorem tend_two {room : Int} {ss : List (List Ky)} {g : Tg} (h : TEnd room ss g) {i k : Nat} {x y : Ky} (hk : k < i) (hx : g.keys[i]? = some x) (hy : g.keys[k]? = some y) : x ≠ y := by
  obtain ⟨hi, e1⟩ := List.getElem?_eq_some_iff.1 hx
  obtain ⟨hj, e2⟩ := List.getElem?_eq_some_iff.1 hy
  have hp := List.pairwise_iff_getElem.1 h.nodup
  rintro rfl
  exact hp _ _ hj hi hk (e2.trans e1.symm)
/-- What worker i was told of its key j: its place, or that there is no room. -/
theorem tend_told {room : Int} {ss : List (List Ky)} {g : Tg} (h : TEnd room ss g) (h0 : 0 ≤ room) {i j : Nat} {s : List Ky} {x : Ky} (hs : ss[i]? = some s) (hx : s[j]? = some x) :
    (∃ m : Nat, (g.tw i).got.getD j 0 = (m : Int) ∧ m < g.keys.length ∧ g.keys[m]? = some x) ∨ ((g.tw i).got.getD j 0 = -1 ∧ (g.keys.length : Int) = room) := by
  rcases (h.got i s hs).2 j x hx with ⟨m, h1, h2⟩ | ⟨h1, h2⟩
  · exact .inl ⟨m, by rw [List.getD_eq_getElem?_getD, h1]; rfl, (List.getElem?_eq_some_iff.1 h2).1, h2⟩
  · exact .inr ⟨by rw [List.getD_eq_getElem?_getD, h1]; rfl, by have := tend_room h h0; omega⟩

set_option maxRecDepth 100000 in
set_option maxHeartbeats 3000000 in
theorem tonce_law (a1 a4 : Option Addr) (l1 l4 c1 c4 R A : Nat) (x4 : List Int) (w : World) (h1 : TGridY w a1 l1) (hR : R ≤ 255) (hA : A ≤ 255)
    (h4 : Row 0 w.heap.size w a4 l4 x4) (hT : Tab w) :
    Calls Tryd.prog 11 #[.slice a1 l1 c1, .int .u8 (R : Int), .int .u8 (A : Int), .slice a4 l4 c4] w fun e w' => e = .returned (.bool true) ∧ Below w.heap.size w w' := by
  have H1 := Lib.hid h1
  have H4 := Lib.hid h4
  have HT := Lib.hid hT
  have hTl := hT.lt
  clear h1 h4 hT
  by_cases g4 : (500 : Int) < (l4 : Int)
  · have HA := Lib.hid (awake_any8 w HT.out)
    go_enter Tryd.func11, Tryd.ntmps11
    go_wp2_with (first | (go_at_call 27; (with_reducible refine (HA.out).mono ?_); rintro e w' ⟨rfl, hb⟩))
    go_ret
    exact ⟨rfl, hb⟩
  obtain ⟨R', hR'⟩ : ∃ R', R % 40 = R' := ⟨_, rfl⟩
  obtain ⟨A', hA'⟩ : ∃ A', A % 70 = A' := ⟨_, rfl⟩
  have hRt : (R : Int).tmod 40 = (R' : Int) := by rw [Int.tmod_eq_emod_of_nonneg (by omega)]; omega
  have hAt : (A : Int).tmod 70 = (A' : Int) := by rw [Int.tmod_eq_emod_of_nonneg (by omega)]; omega
  have hR40 : R' < 40 := by omega
  have hA70 : A' < 70 := by omega
  clear hR' hA'
  go_enter Tryd.func11, Tryd.ntmps11
  go_wp2_with fail
  refine (keys_any a1 l1 c1 w H1.out).mono ?_
  rintro e w2 ⟨a', c', ss, rfl, hs10, hmade, hscr, hb2⟩
  have s2 := hb2.size
  have hsum := kmade_sum hmade hs10
  obtain ⟨W, hW⟩ : ∃ W, ss.length = W := ⟨_, rfl⟩
  have HWL := Lib.hid hW
  rw [hW] at hs10 hscr ⊢
  obtain ⟨N, hN⟩ : ∃ N, 3 * (ss.map List.length).sum = N := ⟨_, rfl⟩
  have hN1 : N ≤ 360 := by omega
  have HSUM := Lib.hid hsum
  have HMD := Lib.hid hmade
  have HSC := Lib.hid hscr
  have HNN := Lib.hid hN
  have HB2 := Lib.hid hb2
  have HT2 := Lib.hid (HT.out.below hb2 hTl)
  clear hscr hmade hb2 hW hsum hN
  go_wp2_with fail
  refine (tplay_any a' a4 W c' l4 c4 ss x4 (R' : Int) (A' : Int) w2 HSC.out (Nat.le_refl _) (H4.out.below HB2.out (Nat.le_refl _)) s2 (by omega) (by have := HSUM.out; omega) (by omega) (kmade_fit HMD.out) HT2.out N HNN.out).mono ?_
  rintro e w3 ⟨gg, kv, gs, rfl, hres, hb3⟩
  have s3 := hb3.size
  have hE := tt_end (sg (A' : Int)) (R' : Int) x4 ss
  unfold ttEnd at hE
  rw [HNN.out] at hE
  obtain ⟨ka, kc, rfl, hk⟩ := hres.keys
  obtain ⟨G, hGe⟩ : ∃ G, ttAt (sg (A' : Int)) (R' : Int) x4 ss N = G := ⟨_, rfl⟩
  rw [hGe] at hE hk hres ⊢
  have hKR := tend_room hE (Int.natCast_nonneg _)
  have hfit := tend_fit hE HMD.out
  have htwo := fun i k x y => tend_two hE (i := i) (k := k) (x := x) (y := y)
  have htold := fun i j s x => tend_told hE (Int.natCast_nonneg _) (i := i) (j := j) (s := s) (x := x)
  have hlen := fun i s h => (hE.got i s h).1
  have hgg : gg < w3.heap.size := hres.2.2.2.1.1
  obtain ⟨ks, hks⟩ : ∃ ks, G.keys = ks := ⟨_, rfl⟩
  rw [hks] at hk hKR hfit ⊢
  simp only [hks] at htwo htold
  obtain ⟨K, hK⟩ : ∃ K, ks.length = K := ⟨_, rfl⟩
  rw [hK] at hk hKR ⊢
  simp only [hK] at htold
  have HG : Hid (∀ i s, ss[i]? = some s → ∃ a c go, w3.cell? ⟨gg, i, none⟩ = some (.slice a s.length c) ∧ Row w2.heap.size w3.heap.size w3 a s.length go ∧ ∀ j x, s[j]? = some x → (∃ m : Nat, go.getD j 0 = (m : Int) ∧ m < K ∧ ks[m]? = some x) ∨ (go.getD j 0 = -1 ∧ (K : Int) = (R' : Int))) := fun i s hs => by
    have hi : i < W := by rw [← HWL.out]; exact (List.getElem?_eq_some_iff.1 hs).1
    obtain ⟨a, c, hc, hr⟩ := hres.got hi
    rw [hlen i s hs] at hc hr
    exact ⟨a, c, _, hc, hr, fun j x hx => htold i j s x hs hx⟩
  have HS3 : Hid (KScr w2.heap.size w3 a' W ss) := HSC.out.below hb3 (Nat.le_refl _)
  have HB3 : Hid (Below w.heap.size w w3) := HB2.out.trans (hb3.mono s2)
  have HT3 : Hid (Tab w3) := HT.out.below HB3.out hTl
  have HKS := Lib.hid hk
  have HFIT := Lib.hid hfit
  have HTWO := Lib.hid htwo
  have HKL := Lib.hid hK
  have hGq := ky_guard_eq
  have hGn := ky_guard_ne
  clear hE hk hfit htwo htold hlen hres hb3 hGe hks hK
  have hWW : ((W : Int) != (W : Int)) = false := by simp
  have hKR' : ¬ ((R' : Int) < (K : Int)) := by omega
  go_wp2_with fail
  clear hWW
  go_loopg [14] (K) (fun gn i wr => ∃ r q : Nat, gn + r ≤ K ∧ K ≤ gn + r ∧ i = .int .i64 r ∧ wr = w3.drewN q)
  case atStart => exact ⟨0, 0, by omega, by omega, rfl, rfl⟩
  case round =>
    obtain ⟨r, q, hr1, hr2, rfl, rfl⟩ := hrel
    by_cases hlt : r < K
    · obtain ⟨b1, o1, rfl, _, hb1, hc1⟩ := keys_cell HKS.out (by omega)
      obtain ⟨x, hx⟩ : ∃ x, ks[r]? = some x := ⟨_, List.getElem?_eq_getElem (by rw [HKL.out]; exact hlt)⟩
      obtain ⟨u0, u1, u2⟩ := hc1 r x hx
      have hxf := HFIT.out x (List.mem_of_getElem? hx)
      have HC1 := Lib.hid hc1
      have HXF := Lib.hid hxf
      have HX := Lib.hid hx
      clear hc1 hx hxf
      go_wp2_with fail
      go_loopg [15] (r) (fun gn d wx => ∃ j q : Nat, gn + j ≤ r ∧ r ≤ gn + j ∧ d = .int .i64 j ∧ wx = w3.drewN q)
      case atStart => exact ⟨0, q, by omega, by omega, rfl, rfl⟩
      case round =>
        obtain ⟨j, q, hj1, hj2, rfl, rfl⟩ := hrel
        by_cases hjl : j < r
        · obtain ⟨y, hy⟩ : ∃ y, ks[j]? = some y := ⟨_, List.getElem?_eq_getElem (by rw [HKL.out]; omega)⟩
          obtain ⟨v0, v1, v2⟩ := HC1.out j y hy
          have hE := fun W' : World => ky_eq (a := x) (b := y) W' HXF.out (HFIT.out y (List.mem_of_getElem? hy))
          have hne : decide (x = y) = false := decide_eq_false (HTWO.out r j x y hjl HX.out hy)
          simp only [hne] at hE
          have hjK : j < K := by omega
          clear hne hy
          go_wp2_with fail
          go_loud (go_quiet (fail))
          go_wp2_with fail
          go_roundg (r - (j + 1))
          case measure => omega
          case rel => exact ⟨j + 1, _, by omega, by omega, by go_num, rfl⟩
        · obtain rfl : j = r := by omega
          go_wp2_with fail
          go_roundg (K - (j + 1))
          case measure => omega
          case rel => exact ⟨j + 1, _, by omega, by omega, by go_num, rfl⟩
    · obtain rfl : r = K := by omega
      go_wp2_with fail
      go_loopg [16] (W) (fun gn i wr => ∃ t q : Nat, gn + t ≤ W ∧ W ≤ gn + t ∧ i = .int .i64 t ∧ wr = w3.drewN q)
      case atStart => exact ⟨0, q, by omega, by omega, rfl, rfl⟩
      case round =>
        obtain ⟨t, q, ht1, ht2, rfl, rfl⟩ := hrel
        by_cases hlt2 : t < W
        · obtain ⟨s, hs⟩ : ∃ s, ss[t]? = some s := ⟨_, List.getElem?_eq_getElem (by rw [HWL.out]; exact hlt2)⟩
          obtain ⟨ga, gc, go, hgc, hgr, hgt⟩ := HG.out t s hs
          obtain ⟨b0, o0, rfl, hb0, hc0⟩ := HS3.out.2.resolve_left (by omega)
          obtain ⟨sa, sc, hsc, hsl⟩ := hc0 t s hs
          have hsf := kmade_fit HMD.out s (List.mem_of_getElem? hs)
          have hb03 : b0 < w3.heap.size := by omega
          obtain ⟨L, hL⟩ : ∃ L, s.length = L := ⟨_, rfl⟩
          have hL12 : L ≤ 12 := by rw [← hL]; exact (HMD.out s (List.mem_of_getElem? hs)).1
          rw [hL] at hgc hgr hsc hsl
          have HLL := Lib.hid hL
          have HGR := Lib.hid hgr
          have HGT := Lib.hid hgt
          have HSL := Lib.hid hsl
          have HSF := Lib.hid hsf
          have hLL : ((L : Int) != (L : Int)) = false := by simp
          clear hc0 hs hgr hgt hsl hsf hL
          go_wp2_with fail
          go_loud (go_quiet (fail))
          go_wp2_with fail
          clear hLL
          go_loopg [17] (L) (fun gn i wr => ∃ t q : Nat, gn + t ≤ L ∧ L ≤ gn + t ∧ i = .int .i64 t ∧ wr = w3.drewN q)
          case atStart => exact ⟨0, _, by omega, by omega, rfl, World.drewN_drewN _ _ _⟩
          case round =>
            obtain ⟨j, q, hj1, hj2, rfl, rfl⟩ := hrel
            by_cases hjl : j < L
            · obtain ⟨x, hx⟩ : ∃ x, s[j]? = some x := ⟨_, List.getElem?_eq_getElem (by rw [HLL.out]; exact hjl)⟩
              obtain ⟨b1, o1, rfl, _, hb1, hc1⟩ := keys_cell HSL.out (by omega)
              obtain ⟨u0, u1, u2⟩ := hc1 j x hx
              have hxf := HSF.out x (List.mem_of_getElem? hx)
              obtain ⟨bg, og, rfl, _, hbg, hcg⟩ := HGR.out.2.resolve_left (by omega)
              have hgj := hcg j hjl
              have hb13 : b1 < w3.heap.size := by omega
              rcases HGT.out j x hx with ⟨m, hm1, hm2, hm3⟩ | ⟨hm1, hm2⟩
              · rw [hm1] at hgj
                obtain ⟨bk, ok, rfl, _, hbk, hck⟩ := keys_cell HKS.out (by omega)
                obtain ⟨v0, v1, v2⟩ := hck m x hm3
                have hE : ∀ W' : World, (binOp .neq 57 (.agg #[.string x.s, .int .i64 x.a, .int .i64 x.b]) (.agg #[.string x.s, .int .i64 x.a, .int .i64 x.b])).run Tryd.prog W' = .ok (.bool false) W' := fun W' => by
                  have := ky_ne (a := x) (b := x) W' hxf hxf
                  simpa using this
                obtain ⟨z, hz⟩ : ∃ z : Int, z = (m : Int) := ⟨_, rfl⟩
                have hzt : z.toNat = m := by rw [hz]; rfl
                rw [← hz] at hgj
                rw [← hzt] at v0 v1 v2
                have hd1 : decide (z < -1) = false := decide_eq_false (by omega)
                have hd2 : decide ((r : Int) ≤ z) = false := decide_eq_false (by omega)
                have hd3 : decide ((0 : Int) ≤ z) = true := decide_eq_true (by omega)
                have hd4 : decide (z < 0) = false := decide_eq_false (by omega)
                have hz0 : 0 ≤ z := by omega
                have hz1 : z < (r : Int) := by omega
                have hz2 : z.toNat < r := by omega
                clear hz hzt hm2 hm1 hm3
                clear hc1 hcg hck hx hxf
                go_wp2_with fail
                go_quiet (fail)
                go_wp2_with fail
                go_roundg (L - (j + 1))
                case measure => omega
                case rel => exact ⟨j + 1, _, by omega, by omega, by go_num, by first | rfl | exact World.drewN_drewN _ _ _⟩
              · obtain ⟨z, hz⟩ : ∃ z : Int, z = -1 := ⟨_, rfl⟩
                rw [hm1, ← hz] at hgj
                have hd1 : decide (z < -1) = false := decide_eq_false (by omega)
                have hd2 : decide ((r : Int) ≤ z) = false := decide_eq_false (by omega)
                have hd3 : decide ((0 : Int) ≤ z) = false := decide_eq_false (by omega)
                have hd4 : decide (z < 0) = true := decide_eq_true (by omega)
                have hd5 : decide ((r : Int) < (R' : Int)) = false := decide_eq_false (by omega)
                have hd6 : decide (r < R') = false := decide_eq_false (by omega)
                clear hc1 hcg hx hxf hm1 hz hm2
                go_wp2_with fail
                go_quiet (fail)
                go_wp2_with fail
                go_roundg (L - (j + 1))
                case measure => omega
                case rel => exact ⟨j + 1, _, by omega, by omega, by go_num, by first | rfl | exact World.drewN_drewN _ _ _⟩
            · obtain rfl : j = L := by omega
              go_wp2_with fail
              go_roundg (W - (t + 1))
              case measure => omega
              case rel => exact ⟨t + 1, _, by omega, by omega, by go_num, rfl⟩
        · obtain rfl : t = W := by omega
          have HA := Lib.hid (awake_any8 (w3.drewN q) (HT3.out.below (below_drewN' (Below.refl _ _) _) HT3.out.lt))
          go_wp2_with (first | (go_at_call 27; (with_reducible refine (HA.out).mono ?_); rintro e w' ⟨rfl, hb6⟩))
          go_ret
          exact ⟨rfl, (below_drewN' HB3.out _).trans (hb6.mono (by have := HB3.out.size; rw [size_drewN']; omega))⟩

end Go.Proofs.YthhcchdjeeigpaaDoor
