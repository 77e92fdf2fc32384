/- Package scc: Of. -/
import Derived.Test.YtdbjmonboecfgaaGgr
import Derived.Test.YtdbjmonboecfgaaGrh
namespace Go.Proofs.Ytdbjmonboecfgaa
open Go.RowKit Go.Maps
set_option linter.unusedVariables false
set_option linter.unusedSimpArgs false

/-- Are two nodes of one group? -/
noncomputable def mutB (g : Gr) (i j : Nat) : Bool := rchB g i j && rchB g j i
noncomputable def grpL (g : Gr) : Gr := grpI (mutB g) g.length
theorem mutB_iff {g : Gr} {i j : Nat} (hi : i < g.length) (hj : j < g.length) : mutB g i j = true ↔ Rch g i j ∧ Rch g j i := by
  unfold mutB; rw [Bool.and_eq_true, rchB_nat hi hj, rchB_nat hj hi]
theorem grpL_of {g : Gr} {F : List Nat} (h : ∀ a b, a < g.length → b < g.length → (el F a = el F b ↔ Rch g a b ∧ Rch g b a)) : grpI (sameF F) g.length = grpL g := by
  unfold grpL grpI
  refine grp2_congr (Nat.le_refl _) fun i j hi hj => ?_
  rw [Bool.eq_iff_iff, mutB_iff hi hj, ← h i j hi hj]
  simp [sameF]
theorem GInv.eqLen {g : Gr} {s : St} (h : GInv g none s) : s.cm.length = g.length ∧ s.fs.length = g.length := ⟨h.lc, h.lf⟩

set_option maxRecDepth 100000 in
set_option maxHeartbeats 4000000 in
theorem of_any {hi : Nat} (ag : Option Addr) (n cg : Nat) (g : Gr) (w : World) (hg : GI hi w ag n g) (hh : hi ≤ w.heap.size) (hn : n ≤ 10000) :
    Calls Try.prog 11 #[.slice ag n cg] w fun e w' => Below w.heap.size w w' ∧ ∃ a c', e = .returned (.slice a (grpL g).length c') ∧ GI w'.heap.size w' a (grpL g).length (grpL g) := by
  have hgl := hg.1
  have HBG := Lib.hid (begin_any ag n cg w (by omega))
  have HGL := Lib.hid hgl
  have HZ : Hid (GInv g none (St.zero n)) := by show GInv _ _ _; rw [← hgl]; exact GInv.zero g
  have HGI := Lib.hid hg
  obtain ⟨GR, hGR⟩ : ∃ GR, grpL g = GR := ⟨_, rfl⟩
  have HGR := Lib.hid hGR
  rw [hGR]
  clear hg hgl hGR
  go_enter Try.func11, Try.ntmps11
  go_wp2_with (go_at_call 21; (with_reducible refine (HBG.out).mono ?_); rintro e w1 ⟨c, rfl, hc1, hc2, hc3, hk1, hb1⟩; have HK1 := Lib.hid hk1; have HB1 := Lib.hid hb1; have HC := Lib.hid (And.intro hc1 (And.intro hc2 hc3)); clear hk1 hb1 hc1 hc2 hc3 HBG)
  go_loopw [9] (fun xv wr => ∃ (x : Nat) (s : St) (k : Nat) (G : Nat → Nat → Nat) (wv ov : Value), x ≤ n ∧ xv = .int .i64 (x : Int) ∧ Hid (WK c wr wv ov k G s) ∧ Hid (GInv g none s ∧ s.way = [] ∧ k ≤ s.cnt ∧ ∀ y, y < x → 0 < el s.cm y) ∧ Hid (Below w.heap.size w wr)) (fun xv _ => n - (intOf xv).toNat)
  case atStart => exact ⟨0, St.zero n, 0, _, _, _, Nat.zero_le _, rfl, HK1, ⟨HZ.out, rfl, Nat.le_refl _, fun y hy => by omega⟩, HB1⟩
  case round =>
    clear HK1 HB1 HZ
    obtain ⟨x, s, k, G, wv, ov, hx, rfl, HK, HI, HB⟩ := hrel
    obtain ⟨hinv, hway, hkc, hmt⟩ := HI.out
    obtain ⟨hc1, hc2, hc3⟩ := HC.out
    have hlc : s.cm.length = c.n := by rw [hinv.lc, HGL.out, hc2]
    by_cases hlt : x < n
    · have HMT := Lib.hid (met_any HK.out hlc x (by rw [hc2]; exact hlt))
      by_cases hm : 0 < el s.cm x
      · have hd : decide (0 < el s.cm x) = true := decide_eq_true hm
        rw [hd] at HMT
        have HI2 : Hid (GInv g none s ∧ s.way = [] ∧ k ≤ s.cnt ∧ ∀ y, y < x + 1 → 0 < el s.cm y) := ⟨hinv, hway, hkc, fun y hy => by
          by_cases e : y = x
          · rw [e]; exact hm
          · exact hmt y (by omega)⟩
        clear hinv hway hkc hmt hc1 hc2 hc3 hlc hm hd
        go_wp2_with (go_at_call 22; (with_reducible refine (HMT.out).mono ?_); rintro e w' ⟨rfl, rfl⟩)
        go_roundw
        case rel => exact ⟨x + 1, s, k, G, wv, ov, by omega, by go_num, HK, HI2, HB⟩
        case measure => simp [intOf]; omega
      · have hd : decide (0 < el s.cm x) = false := decide_eq_false hm
        rw [hd] at HMT
        have hgi : GI c.base wr ag c.n g := by rw [hc1, hc2]; exact (HGI.out.below HB.out hh).mono hh
        have HFR := Lib.hid (from_any HK.out (by rw [hc3, hc2]) hgi hinv hway hkc x (by rw [hc2]; exact hlt) (by omega) (by omega))
        have HMN := Lib.hid hmt
        clear hinv hway hkc hmt hc2 hc3 hlc hm hd hgi
        go_wp2_with (first
          | (go_at_call 22; (with_reducible refine (HMT.out).mono ?_); rintro e w' ⟨rfl, rfl⟩)
          | (go_at_call 23; (with_reducible refine (HFR.out).mono ?_); rintro e w2 ⟨rfl, hb2, wv2, ov2, k2, G2, s2, nx, hk2, hf, hw2⟩; have HK2 := Lib.hid hk2; have HF2 := Lib.hid hf; have HW2 := Lib.hid hw2; have HB2 := Lib.hid (HB.out.trans (by rw [← hc1]; exact hb2)); clear hk2 hf hw2 hb2 HFR))
        have HI2 : Hid (GInv g none s2 ∧ s2.way = [] ∧ k2 ≤ s2.cnt ∧ ∀ y, y < x + 1 → 0 < el s2.cm y) := ⟨HF2.out.inv, HW2.out, HF2.out.kle, fun y hy => by
          by_cases e : y = x
          · rw [e]; exact HF2.out.met
          · exact HF2.out.mono y (HMN.out y (by omega))⟩
        go_roundw
        case rel => exact ⟨x + 1, s2, k2, G2, wv2, ov2, by omega, by go_num, HK2, HI2, HB2⟩
        case measure => simp [intOf]; omega
    · have hxn : x = n := by omega
      have hgr := hinv.groups hway (fun a ha => hmt a (by rw [hxn, ← HGL.out]; exact ha))
      have hE : grpI (sameF s.fs) c.n = GR := by
        rw [hc2, ← HGL.out, ← HGR.out]
        exact grpL_of hgr.2
      have HG := Lib.hid (groups_any HK.out (by rw [hc3, hc2]) (by omega) (by rw [hinv.lf, HGL.out, hc2]) (fun i hi => by have := hgr.1 i (by rw [HGL.out, ← hc2]; exact hi); rw [HGL.out, ← hc2] at this; exact this))
      rw [hE] at HG
      have hge : ¬ ((x : Int) < (n : Int)) := by omega
      have hs1 := HB.out.size
      clear hinv hway hkc hmt hc1 hc2 hc3 hlc hgr hE hxn
      go_wp2_with (go_at_call 24; (with_reducible refine (HG.out).mono ?_); rintro e w3 ⟨hb3, a, cc, rfl, hgi3⟩; have HGI3 := Lib.hid hgi3; have HB3 := Lib.hid (HB.out.trans (hb3.mono hs1)); clear hgi3 hb3 HG)
      go_ret
      first | exact ⟨HB3.out, a, cc, rfl, HGI3.out⟩ | exact ⟨HB3.out, a, ⟨cc, rfl⟩, HGI3.out⟩

end Go.Proofs.Ytdbjmonboecfgaa
