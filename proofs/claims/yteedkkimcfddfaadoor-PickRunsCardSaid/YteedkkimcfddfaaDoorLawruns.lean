/- The walk of the law PickRuns: it returns true and changes nothing that was there. -/
import Derived.Test.YteedkkimcfddfaaDoorSame
import Derived.Deep.RegionWith
import Derived.Deep.RegionHeld3
import Derived.Deep.DeepCutAuto
namespace Go.Proofs.YteedkkimcfddfaaDoor
open Go.RowKit

/-- A slice of slices of bools. -/
def Grid (w : World) (a : Option Addr) (n : Nat) : Prop :=
  n = 0 ∨ ∃ b off, a = some ⟨b, off, none⟩ ∧ b < w.heap.size ∧ ∀ k, k < n → ∃ A L C en, w.cell? ⟨b, off + k, none⟩ = some (.slice A L C) ∧ RowB 0 w.heap.size w A L en

theorem nextI_spec (xs : List Int) (p l : Int) (en : List Bool) : nextI xs p l en = -1 ∨ ∃ m : Nat, nextI xs p l en = m ∧ m < en.length ∧ en.getD m false = true := by
  have mem : ∀ m, m ∈ on 0 en → m < en.length ∧ en.getD m false = true := fun m hm => by
    have := on_range en 0 m hm
    exact ⟨by omega, by simpa using this.2.2⟩
  by_cases hon : on 0 en = []
  · exact .inl (by simp [nextI, hon])
  · right
    have hpos : 0 < (on 0 en).length := List.length_pos_iff.2 hon
    by_cases hp : 0 ≤ p ∧ p < xs.length
    · refine ⟨(on 0 en).getD (xs.getD p.toNat 0 % ((on 0 en).length : Int)).toNat 0, by simp only [nextI, hon, if_false, if_pos hp], ?_⟩
      apply mem
      have h0 := Int.emod_nonneg (xs.getD p.toNat 0) (by omega : ((on 0 en).length : Int) ≠ 0)
      have h1 := Int.emod_lt_of_pos (xs.getD p.toNat 0) (by omega : (0 : Int) < ((on 0 en).length : Int))
      rw [List.getD_eq_getElem?_getD, List.getElem?_eq_getElem (by omega)]
      simp
    · have e : nextI xs p l en = behindI en l := by simp only [nextI, hon, if_false, if_neg hp]
      rw [e]
      unfold behindI
      split
      · rename_i x hx
        exact ⟨x, rfl, mem x (List.mem_of_find?_eq_some hx)⟩
      · refine ⟨_, rfl, ?_⟩
        apply mem
        rw [List.getD_eq_getElem?_getD, List.getElem?_eq_getElem hpos]
        simp

def AfterNext (w0 : World) (la : Nat) (xs : List Int) (ni na nl : Int) (s8 s9 : Value) (wx : World) : Prop :=
  s8 = .int .i64 ni ∧ ∃ g a2 c2, s9 = .pointer (some ⟨g, 0, none⟩) ∧ w0.heap.size ≤ g ∧ g < wx.heap.size ∧ Box wx g 24 [.slice a2 la c2, .int .i64 na, .int .i64 nl] ∧ Row w0.heap.size wx.heap.size wx a2 la xs ∧ Below w0.heap.size w0 wx
def AfterPick (w0 : World) (a : Option Addr) (la ca : Nat) (ni na nl : Int) (s10 : Value) (wx : World) : Prop :=
  ∃ g, s10 = .pointer (some ⟨g, 0, none⟩) ∧ w0.heap.size ≤ g ∧ g < wx.heap.size ∧ Box wx g 30 [.int .i64 ni, .slice a la ca, .int .i64 na, .int .i64 nl] ∧ Below w0.heap.size w0 wx

theorem below_next {B : Nat} {w w' w'' : World} (h : Below B w w') (k : Below w'.heap.size w' w'') (hB : B ≤ w.heap.size) : Below B w w'' := h.trans (k.mono (Nat.le_trans hB h.size))
theorem below_alloc {B : Nat} {w w' : World} (h : Below B w w') (hB : B ≤ w.heap.size) (o : Obj) : Below B w (w'.alloc o) := h.alloc (Nat.le_trans hB h.size) o

theorem below_set3 {B : Nat} {w w' : World} (h : Below B w w') {a b c : Addr} {u v x : Value} (ha : B ≤ a.block) (hb : B ≤ b.block) (hc : B ≤ c.block) : Below B w (((w'.setCell a u).setCell b v).setCell c x) := ((h.setCell ha u).setCell hb v).setCell hc x

theorem below_set4 {B : Nat} {w w' : World} (h : Below B w w') {a b c d : Addr} {u v x y : Value} (ha : B ≤ a.block) (hb : B ≤ b.block) (hc : B ≤ c.block) (hd : B ≤ d.block) : Below B w ((((w'.setCell a u).setCell b v).setCell c x).setCell d y) := (((h.setCell ha u).setCell hb v).setCell hc x).setCell hd y

theorem after_set {w0 wz : World} {la : Nat} {xs : List Int} {a4 : Option Addr} {c4 : Nat} (o : Obj) (ni na nl : Int) (bx : Box wz w0.heap.size 24 [.slice none 0 0, .int .i64 0, .int .i64 0])
    (hr : Row (w0.alloc o).drew.heap.size wz.heap.size wz a4 la xs) (hb : Below (w0.alloc o).drew.heap.size (w0.alloc o).drew wz) :
    AfterNext w0 la xs ni na nl (.int .i64 ni) (.pointer (some ⟨w0.heap.size, 0, none⟩)) (((wz.setCell ⟨w0.heap.size, 0, none⟩ (.slice a4 la c4)).setCell ⟨w0.heap.size, 1, none⟩ (.int .i64 na)).setCell ⟨w0.heap.size, 2, none⟩ (.int .i64 nl)) := by
  have e : (w0.alloc o).drew.heap.size = w0.heap.size + 1 := World.size_alloc _ _
  have h1 := hb.size
  rw [e] at hr
  refine ⟨rfl, w0.heap.size, a4, c4, rfl, Nat.le_refl _, by simp; omega, ((bx.set 0 _).set 1 _).set 2 _, ?_, ?_⟩
  · exact (((hr.set (.inl (by simp)) _).set (.inl (by simp)) _).set (.inl (by simp)) _).mono (by omega) (by simp)
  · exact below_set3 (below_next (below_alloc (Below.refl _ _) (Nat.le_refl _) o).drew hb (Nat.le_refl _)) (Nat.le_refl _) (Nat.le_refl _) (Nat.le_refl _)

theorem after_set4 {w0 wz : World} {a : Option Addr} {la ca : Nat} (o : Obj) (ni na nl : Int) (bx : Box wz w0.heap.size 30 [.int .i64 0, .slice none 0 0, .int .i64 0, .int .i64 0])
    (hb : Below (w0.alloc o).drew.heap.size (w0.alloc o).drew wz) :
    AfterPick w0 a la ca ni na nl (.pointer (some ⟨w0.heap.size, 0, none⟩)) ((((wz.setCell ⟨w0.heap.size, 0, none⟩ (.int .i64 ni)).setCell ⟨w0.heap.size, 1, none⟩ (.slice a la ca)).setCell ⟨w0.heap.size, 2, none⟩ (.int .i64 na)).setCell ⟨w0.heap.size, 3, none⟩ (.int .i64 nl)) := by
  have e : (w0.alloc o).drew.heap.size = w0.heap.size + 1 := World.size_alloc _ _
  have h1 := hb.size
  refine ⟨w0.heap.size, rfl, Nat.le_refl _, by simp; omega, (((bx.set 0 _).set 1 _).set 2 _).set 3 _, ?_⟩
  exact below_set4 (below_next (below_alloc (Below.refl _ _) (Nat.le_refl _) o).drew hb (Nat.le_refl _)) (Nat.le_refl _) (Nat.le_refl _) (Nat.le_refl _) (Nat.le_refl _)

set_option maxRecDepth 100000 in
set_option maxHeartbeats 4000000 in
theorem runs_any (a aw : Option Addr) (la ca lw cw : Nat) (xs : List Int) (w : World) (hx : Row 0 w.heap.size w a la xs) (hg : Grid w aw lw) (hT : Tab w) :
    Calls Tryd.prog 4 #[.slice a la ca, .slice aw lw cw] w fun e w' => e = .returned (.bool true) ∧ Below w.heap.size w w' := by
  by_cases h1 : 60 < la
  · go_enter Tryd.func4, Tryd.ntmps4
    go_wp2_with (go_at_call 7; refine (awake_any _ hT).mono ?_; rintro e w' ⟨rfl, hb⟩)
    go_ret
    exact ⟨rfl, hb⟩
  by_cases h2 : 80 < lw
  · go_enter Tryd.func4, Tryd.ntmps4
    go_wp2_with (go_at_call 7; refine (awake_any _ hT).mono ?_; rintro e w' ⟨rfl, hb⟩)
    go_ret
    exact ⟨rfl, hb⟩
  have HT := Lib.hid hT
  have HX := Lib.hid hx
  have HG := Lib.hid hg
  clear hT hx hg
  go_enter Tryd.func4, Tryd.ntmps4
  go_wp2_with fail
  refine (Start_any _ _ _ xs _ HX.out (Nat.le_refl _) (by omega)).mono ?_
  rintro e w1 ⟨a1, c1, rfl, hr1, hb1⟩
  have s1 := hb1.size
  go_wp2_with fail
  have b5 := Box.new w1 24 [.slice a1 la c1, .int .i64 0, .int .i64 (-1)]
  have k1 := hb1.alloc s1 (.cells #[.slice a1 la c1, .int .i64 0, .int .i64 (-1)] 24)
  have hr1' := hr1.alloc (Nat.le_refl _) (.cells #[.slice a1 la c1, .int .i64 0, .int .i64 (-1)] 24)
  refine (rstart_any _ _ _ _).mono ?_
  rintro e w2 ⟨rfl, hb2⟩
  have s2 := hb2.size
  rw [World.size_alloc] at s2
  have k2 := k1.trans (hb2.mono (by simp; omega))
  have B5 := b5.below hb2
  have hr2 := hr1'.below hb2 (by simp)
  have b6 := Box.new w2 24 [.slice a la ca, .int .i64 0, .int .i64 (-1)]
  have B5' := B5.alloc (.cells #[.slice a la ca, .int .i64 0, .int .i64 (-1)] 24)
  have k2' := k2.alloc (by omega) (.cells #[.slice a la ca, .int .i64 0, .int .i64 (-1)] 24)
  have hr2' := hr2.alloc (by omega) (.cells #[.slice a la ca, .int .i64 0, .int .i64 (-1)] 24)
  clear hb1 b5 k1 hr1 hr1' hb2 k2 B5 hr2
  go_wp2_with fail
  go_loopg [7] (lw) (fun gn i wr => ∃ (p l : Int) (k : Nat) (a3 : Option Addr) (c3 lo hi : Nat), gn + k = lw ∧ i = .int .i64 k ∧ Box wr w1.heap.size 24 [.slice a3 la c3, .int .i64 p, .int .i64 l] ∧
      Box wr w2.heap.size 24 [.slice a la ca, .int .i64 p, .int .i64 l] ∧ Row lo hi wr a3 la xs ∧ hi ≤ wr.heap.size ∧ Below w.heap.size w wr)
  case atStart => exact ⟨0, -1, 0, a1, c1, _, _, Nat.add_zero _, rfl, B5', b6, hr2', by simp; omega, k2'⟩
  case round =>
    clear B5' b6 hr2' k2'
    obtain ⟨p, l, k, a3, c3, lo, hi, hgk, rfl, B5, B6, hr, hhi, hb⟩ := hrel
    have hsz := hb.size
    have g5 := B5.lt
    have g6 := B6.lt
    by_cases hlt : k < lw
    · obtain ⟨bo, oo, rfl, hbo, hgr⟩ := HG.out.resolve_left (by omega)
      obtain ⟨A, L, C, en, hcell, hrow⟩ := hgr k hlt
      have hcw := (hb.cell (p := ⟨bo, oo + k, none⟩) hbo).trans hcell
      have hbo' : bo < wr.heap.size := by omega
      clear hgr hcell
      by_cases hL : 70 < L
      · go_wp2_with fail
        refine (awake_any _ (HT.out.below hb HT.out.lt)).mono ?_
        rintro e w' ⟨rfl, hb'⟩
        go_wp2_with fail
        go_ret
        exact ⟨rfl, hb.trans (hb'.mono (by omega))⟩
      · obtain ⟨ni, hni⟩ : ∃ ni, nextI xs p l en = ni := ⟨_, rfl⟩
        obtain ⟨na, hna⟩ : ∃ na, nextAt xs p en = na := ⟨_, rfl⟩
        obtain ⟨nl, hnl⟩ : ∃ nl, nextLast xs p l en = nl := ⟨_, rfl⟩
        have hspec := nextI_spec xs p l en
        rw [hni] at hspec
        have HN := Lib.hid (And.intro hni (And.intro hna (And.intro hnl hspec)))
        clear hni hna hnl hspec
        have T1 : ∀ W, Sem.run Tryd.prog (Instr.indexAt 35 (.slice (some ⟨bo, oo, none⟩) lw cw) (.int .i64 (k:Int))) W = .ok (.pointer (some ⟨bo, oo + k, none⟩)) W := fun W => by go_simp
        have C1 : ∀ w', Below wr.heap.size wr w' → Calls Tryd.prog 8 #[.agg #[.slice a3 la c3, .int .i64 p, .int .i64 l], .slice A L C] w' fun e w'' => ∃ a' c', e = .returned (.tuple #[.int .i64 ni, .agg #[.slice a' la c', .int .i64 na, .int .i64 nl]]) ∧ Row w'.heap.size w''.heap.size w'' a' la xs ∧ Below w'.heap.size w' w'' := by
          intro w' h
          have := Next_any a3 A la c3 L C xs en p l w' (hr.below h hhi) (Nat.le_trans hhi h.size) (by omega) (hrow.below (hb.trans (h.mono hsz)) (Nat.le_refl _)) (Nat.le_trans hsz h.size) (by omega) (HT.out.below (hb.trans (h.mono hsz)) HT.out.lt)
          rwa [HN.out.1, HN.out.2.1, HN.out.2.2.1] at this
        have K : ∀ w', Below wr.heap.size wr w' → (Below wr.heap.size wr w' ∧
            w'.cell? ⟨w1.heap.size, 0, none⟩ = some (.slice a3 la c3) ∧ w'.cell? ⟨w1.heap.size, 1, none⟩ = some (.int .i64 p) ∧ w'.cell? ⟨w1.heap.size, 2, none⟩ = some (.int .i64 l) ∧
            w'.cell? ⟨bo, oo + k, none⟩ = some (.slice A L C)) :=
          fun w' h => ⟨h, (B5.below h).cell 0, (B5.below h).cell 1, (B5.below h).cell 2, (h.cell (p := ⟨bo, oo + k, none⟩) hbo').trans hcw⟩
        have H1 := Lib.hid C1
        have HK := Lib.hid K
        clear C1 K
        go_upto_region 10 with fail
        go_cut [8, 9] from 24 to 88 (fun s8 s9 wx => AfterNext wr la xs ni na nl s8 s9 wx)
        case first =>
          go_region_held3 (fun w' => Below wr.heap.size wr w' ∧
            w'.cell? ⟨w1.heap.size, 0, none⟩ = some (.slice a3 la c3) ∧ w'.cell? ⟨w1.heap.size, 1, none⟩ = some (.int .i64 p) ∧ w'.cell? ⟨w1.heap.size, 2, none⟩ = some (.int .i64 l) ∧
            w'.cell? ⟨bo, oo + k, none⟩ = some (.slice A L C))
            (first
              | exact HK.out _ (Below.refl _ _).drew
              | exact HK.out _ (below_next (And.left (by assumption)) hbz (Nat.le_refl _))
              | exact HK.out _ (below_alloc (And.left (by assumption)) (Nat.le_refl _) _)
              | exact HK.out _ (below_alloc (below_next (Below.refl _ _).drew hbz (Nat.le_refl _)) (Nat.le_refl _) _)
              | exact HK.out _ (below_set3 (And.left (by assumption)) (by simp) (by simp) (by simp)))
            (first
              | (go_at_call 8; (with_reducible refine (H1.out _ ?_).mono ?_); exact And.left (by assumption); rintro e wz ⟨a4, c4, rfl, hrz, hbz⟩; try (have bx := Box.below (Box.new wr 24 [.slice none 0 0, .int .i64 0, .int .i64 0]).drew hbz; obtain ⟨_, _, _, _, _, _⟩ := bx.three))
              | fail)
          all_goals (go_wp2_with fail; go_meet)
          all_goals first
            | exact ⟨rfl, wz.heap.size, a4, c4, rfl, hbz.size, by simp, Box.new wz _ [.slice a4 la c4, .int .i64 na, .int .i64 nl], (hrz.alloc (Nat.le_refl _) _).mono (Nat.le_refl _) (by simp), below_alloc (below_next (Below.refl _ _).drew hbz (Nat.le_refl _)) (Nat.le_refl _) _⟩
            | exact after_set _ _ _ _ bx hrz hbz
        case rest =>
          obtain ⟨rfl, g9, a9, c9, rfl, hg9, hg9', B9, hr9, hb9⟩ := hcut
          have hs9 := hb9.size
          have B5c := B5.below hb9
          have B6c := B6.below hb9
          have hbc := hb.trans (hb9.mono hsz)
          have hcwc := (hb9.cell (p := ⟨bo, oo + k, none⟩) hbo').trans hcw
          have C1 : ∀ w', Below wc.heap.size wc w' → Calls Tryd.prog 9 #[.agg #[.slice a la ca, .int .i64 p, .int .i64 l], .slice A L C] w' fun e w'' => e = .returned (.agg #[.int .i64 ni, .slice a la ca, .int .i64 na, .int .i64 nl]) ∧ Below w'.heap.size w' w'' := by
            intro w' h
            have h0 := hbc.trans (h.mono (Nat.le_trans hsz hs9))
            have := pick_any a A la ca L C xs en p l w' (HX.out.below h0 (Nat.le_refl _)) h0.size (by omega) (hrow.below h0 (Nat.le_refl _)) h0.size (by omega)
            rwa [HN.out.1, HN.out.2.1, HN.out.2.2.1] at this
          have K : ∀ w', Below wc.heap.size wc w' → (Below wc.heap.size wc w' ∧
              w'.cell? ⟨w2.heap.size, 0, none⟩ = some (.slice a la ca) ∧ w'.cell? ⟨w2.heap.size, 1, none⟩ = some (.int .i64 p) ∧ w'.cell? ⟨w2.heap.size, 2, none⟩ = some (.int .i64 l) ∧
              w'.cell? ⟨bo, oo + k, none⟩ = some (.slice A L C)) :=
            fun w' h => ⟨h, (B6c.below h).cell 0, (B6c.below h).cell 1, (B6c.below h).cell 2, (h.cell (p := ⟨bo, oo + k, none⟩) (by show bo < _; omega)).trans hcwc⟩
          have H2 := Lib.hid C1
          have HK2 := Lib.hid K
          clear C1 K HK H1 hcw
          go_upto_region 11 with fail
          go_cut [10] from 24 to 88 (fun s10 wx => AfterPick wc a la ca ni na nl s10 wx)
          case first =>
            go_region_held3 (fun w' => Below wc.heap.size wc w' ∧
              w'.cell? ⟨w2.heap.size, 0, none⟩ = some (.slice a la ca) ∧ w'.cell? ⟨w2.heap.size, 1, none⟩ = some (.int .i64 p) ∧ w'.cell? ⟨w2.heap.size, 2, none⟩ = some (.int .i64 l) ∧
              w'.cell? ⟨bo, oo + k, none⟩ = some (.slice A L C))
              (first
                | exact HK2.out _ (Below.refl _ _).drew
                | exact HK2.out _ (below_next (And.left (by assumption)) hbz (Nat.le_refl _))
                | exact HK2.out _ (below_alloc (And.left (by assumption)) (Nat.le_refl _) _)
                | exact HK2.out _ (below_alloc (below_next (Below.refl _ _).drew hbz (Nat.le_refl _)) (Nat.le_refl _) _)
                | exact HK2.out _ (below_set4 (And.left (by assumption)) (by simp) (by simp) (by simp) (by simp)))
              (first
                | (go_at_call 9; (with_reducible refine (H2.out _ ?_).mono ?_); exact And.left (by assumption); rintro e wz ⟨rfl, hbz⟩; try (have bx := Box.below (Box.new wc 30 [.int .i64 0, .slice none 0 0, .int .i64 0, .int .i64 0]).drew hbz; have bc0 := bx.cell 0; have bc1 := bx.cell 1; have bc2 := bx.cell 2; have bc3 := bx.cell 3; simp only [List.getElem?_cons_zero, List.getElem?_cons_succ] at bc0 bc1 bc2 bc3; have bf0 := bx.frozen 0; have bf1 := bx.frozen 1; have bf2 := bx.frozen 2; have bf3 := bx.frozen 3))
                | fail)
            all_goals (go_wp2_with fail; go_meet)
            all_goals first
              | exact ⟨wz.heap.size, rfl, hbz.size, by simp, Box.new wz _ [.int .i64 ni, .slice a la ca, .int .i64 na, .int .i64 nl], below_alloc (below_next (Below.refl _ _).drew hbz (Nat.le_refl _)) (Nat.le_refl _) _⟩
              | exact after_set4 _ _ _ _ bx hbz
          case rest =>
            obtain ⟨g10, rfl, hg10, hg10', B10, hb10⟩ := hcut
            have hs10 := hb10.size
            have B5d := B5c.below hb10
            have B6d := B6c.below hb10
            have B9d := B9.below hb10
            have hr9d := hr9.below hb10 (Nat.le_refl _)
            have hbd := hbc.trans (hb10.mono (Nat.le_trans hsz hs9))
            have hcwd := (hb10.cell (p := ⟨bo, oo + k, none⟩) (by show bo < _; omega)).trans hcwc
            obtain ⟨_, _, _, _, _, _⟩ := B9d.three
            have q0 := B10.cell 0
            have q1 := B10.cell 1
            have q2 := B10.cell 2
            have q3 := B10.cell 3
            simp only [List.getElem?_cons_zero, List.getElem?_cons_succ] at q0 q1 q2 q3
            have z1 : g9 < wc.heap.size := by omega
            have z2 : bo < wc.heap.size := by omega
            have hx10 := HX.out.below hbd (Nat.le_refl _)
            rcases HN.out.2.2.2 with hneg | ⟨m, hm, hml, hmt⟩
            · have hn0 : ni < 0 := by omega
              have hself : (ni != ni) = false := by simp
              clear hneg
              go_wp2_with fail
              refine (same_true a9 a la c9 ca xs na nl _ hr9d hx10 (by omega) hbd.size (by omega)).mono ?_
              rintro e w8 ⟨rfl, hb8⟩
              have hs8 := hb8.size
              have B5e := B5d.below hb8
              have B6e := B6d.below hb8
              have B9e := B9d.below hb8
              have B10e := B10.below hb8
              have hr9e := (hr9d.below hb8 (by omega)).mono (lo' := wr.heap.size) (hi' := w8.heap.size) (Nat.le_refl _) (by omega)
              have hbe := hbd.trans (hb8.mono (by omega))
              have hcwe := (hb8.cell (p := ⟨bo, oo + k, none⟩) (by show bo < _; omega)).trans hcwd
              obtain ⟨_, _, _, _, _, _⟩ := B5e.three
              obtain ⟨_, _, _, _, _, _⟩ := B6e.three
              obtain ⟨_, _, _, _, _, _⟩ := B9e.three
              have q0' := B10e.cell 0
              have q1' := B10e.cell 1
              have q2' := B10e.cell 2
              have q3' := B10e.cell 3
              simp only [List.getElem?_cons_zero, List.getElem?_cons_succ] at q0' q1' q2' q3'
              have z3 : g9 < w8.heap.size := by omega
              have z4 : bo < w8.heap.size := by omega
              have z5 : w1.heap.size < w8.heap.size := by omega
              have z6 : w2.heap.size < w8.heap.size := by omega
              have z7 : g10 < w8.heap.size := by omega
              have z8 : w1.heap.size ≠ w2.heap.size := by omega
              have z9 : g10 ≠ w1.heap.size := by omega
              have z10 : g10 ≠ w2.heap.size := by omega
              have z11 : g9 ≠ w1.heap.size := by omega
              go_wp2_with fail
              go_roundg (gk - 1)
              case measure => omega
              case rel =>
                refine ⟨na, nl, k + 1, a9, c9, wr.heap.size, w8.heap.size, by omega, by go_num, ?_, ?_, ?_, ?_, ?_⟩
                · exact ((((((B5e.set 0 _).set 1 _).set 2 _).setOther (by simp; omega) _).setOther (by simp; omega) _).setOther (by simp; omega) _)
                · exact ((((((B6e.setOther (by simp; omega) _).setOther (by simp; omega) _).setOther (by simp; omega) _).set 0 _).set 1 _).set 2 _)
                · exact (((((hr9e.set (.inl (by simp; omega)) _).set (.inl (by simp; omega)) _).set (.inl (by simp; omega)) _).set (.inl (by simp; omega)) _).set (.inl (by simp; omega)) _).set (.inl (by simp; omega)) _
                · simp
                · exact (((((hbe.setCell (by simp; omega) _).setCell (by simp; omega) _).setCell (by simp; omega) _).setCell (by simp; omega) _).setCell (by simp; omega) _).setCell (by simp; omega) _
            · obtain ⟨bA, oA, rfl, _, hbA, hcA⟩ := hrow.2.resolve_left (by have := hrow.1; omega)
              have hlL : en.length = L := hrow.1
              subst hm
              have hselfm : ((m : Int) != (m : Int)) = false := by simp
              have hcm := hcA m (by omega)
              rw [hmt] at hcm
              have hmL : m < L := by omega
              have z0 : bA < wc.heap.size := by omega
              have T3 : ∀ W, Sem.run Tryd.prog (Instr.indexAt 25 (.slice (some ⟨bA, oA, none⟩) L C) (.int .i64 (m:Int))) W = .ok (.pointer (some ⟨bA, oA + m, none⟩)) W := fun W => by go_simp
              have hlL' := Lib.hid hlL
              have hmt' := Lib.hid hmt
              clear hcA hlL hmt hml
              go_wp2_with fail
              refine (same_true a9 a la c9 ca xs na nl _ hr9d hx10 (by omega) hbd.size (by omega)).mono ?_
              rintro e w8 ⟨rfl, hb8⟩
              have hs8 := hb8.size
              have B5e := B5d.below hb8
              have B6e := B6d.below hb8
              have B9e := B9d.below hb8
              have B10e := B10.below hb8
              have hr9e := (hr9d.below hb8 (by omega)).mono (lo' := wr.heap.size) (hi' := w8.heap.size) (Nat.le_refl _) (by omega)
              have hbe := hbd.trans (hb8.mono (by omega))
              have hcwe := (hb8.cell (p := ⟨bo, oo + k, none⟩) (by show bo < _; omega)).trans hcwd
              obtain ⟨_, _, _, _, _, _⟩ := B5e.three
              obtain ⟨_, _, _, _, _, _⟩ := B6e.three
              obtain ⟨_, _, _, _, _, _⟩ := B9e.three
              have q0' := B10e.cell 0
              have q1' := B10e.cell 1
              have q2' := B10e.cell 2
              have q3' := B10e.cell 3
              simp only [List.getElem?_cons_zero, List.getElem?_cons_succ] at q0' q1' q2' q3'
              have hcme := (hbe.cell (p := ⟨bA, oA + m, none⟩) hbA).trans hcm
              have z12 : bA < w8.heap.size := by omega
              have z3 : g9 < w8.heap.size := by omega
              have z4 : bo < w8.heap.size := by omega
              have z5 : w1.heap.size < w8.heap.size := by omega
              have z6 : w2.heap.size < w8.heap.size := by omega
              have z7 : g10 < w8.heap.size := by omega
              have z8 : w1.heap.size ≠ w2.heap.size := by omega
              have z9 : g10 ≠ w1.heap.size := by omega
              have z10 : g10 ≠ w2.heap.size := by omega
              have z11 : g9 ≠ w1.heap.size := by omega
              go_wp2_with fail
              go_roundg (gk - 1)
              case measure => omega
              case rel =>
                refine ⟨na, nl, k + 1, a9, c9, wr.heap.size, w8.heap.size, by omega, by go_num, ?_, ?_, ?_, ?_, ?_⟩
                · exact ((((((B5e.set 0 _).set 1 _).set 2 _).setOther (by simp; omega) _).setOther (by simp; omega) _).setOther (by simp; omega) _)
                · exact ((((((B6e.setOther (by simp; omega) _).setOther (by simp; omega) _).setOther (by simp; omega) _).set 0 _).set 1 _).set 2 _)
                · exact (((((hr9e.set (.inl (by simp; omega)) _).set (.inl (by simp; omega)) _).set (.inl (by simp; omega)) _).set (.inl (by simp; omega)) _).set (.inl (by simp; omega)) _).set (.inl (by simp; omega)) _
                · simp
                · exact (((((hbe.setCell (by simp; omega) _).setCell (by simp; omega) _).setCell (by simp; omega) _).setCell (by simp; omega) _).setCell (by simp; omega) _).setCell (by simp; omega) _
    · obtain rfl : k = lw := by omega
      go_wp2_with fail
      refine (awake_any _ (HT.out.below hb HT.out.lt)).mono ?_
      rintro e w' ⟨rfl, hb'⟩
      go_wp2_with fail
      go_ret
      exact ⟨rfl, hb.trans (hb'.mono (by omega))⟩

end Go.Proofs.YteedkkimcfddfaaDoor
