/- Contract of the statements' own Cells: cells that may be. -/
import Derived.Test.YtigcddafiaadiaaCops
namespace Go.Proofs.Ytigcddafiaadiaa
open Go.RowKit
set_option linter.unusedVariables false
set_option linter.unusedSimpArgs false

theorem Tk.ten {w : World} {b : Nat} {t : Tk} (h : Box w b 27 t.cells) : w.cell? ⟨b, 0, none⟩ = some (.int .i64 (t.k : Int)) ∧ w.cell? ⟨b, 1, none⟩ = some (.int .i64 (t.x : Int)) ∧ w.cell? ⟨b, 2, none⟩ = some (.int .i64 (t.y : Int)) ∧ w.cell? ⟨b, 3, none⟩ = some (.int .i64 (t.st : Int)) ∧ w.cell? ⟨b, 4, none⟩ = some (.int .i64 (t.u : Int)) ∧ w.cell? ⟨b, 5, none⟩ = some (.int .i64 (t.v : Int)) ∧ w.cell? ⟨b, 6, none⟩ = some (.int .i64 (t.w : Int)) ∧ w.cell? ⟨b, 7, none⟩ = some (.int .i64 (t.r : Int)) ∧ w.cell? ⟨b, 8, none⟩ = some (.bool t.dn) ∧ w.cell? ⟨b, 9, none⟩ = some (.int .i64 (t.res : Int)) := Box.ten h
theorem Tk.one (t : Tk) : ∀ v ∈ t.cells, v.oneCell' = true := by
  intro v hv
  simp [Tk.cells] at hv
  rcases hv with rfl | rfl | rfl | rfl | rfl | rfl | rfl | rfl | rfl | rfl <;> rfl

theorem rstep_t (a b : Option Addr) (la ca cb : Nat) (pr : List Int) (up : List Nat) (t : Tk) (w : World) {lo hi lo2 hi2 : Nat} (I : Inv la pr up t)
    (hp : RowN lo hi w a la up) (hhi : hi ≤ w.heap.size) (hq : Row lo2 hi2 w b la pr) (hhi2 : hi2 ≤ w.heap.size) (hm : la ≤ 1000000) (T : Tk) (hT : tks up pr t = T) (U : List Nat) (hU : ups up pr t = U) :
    Calls Try.prog 19 #[.slice a la ca, .slice b la cb, .agg #[.int .i64 (t.k : Int), .int .i64 (t.x : Int), .int .i64 (t.y : Int), .int .i64 (t.st : Int), .int .i64 (t.u : Int), .int .i64 (t.v : Int), .int .i64 (t.w : Int), .int .i64 (t.r : Int), .bool t.dn, .int .i64 (t.res : Int)]] w fun e w' =>
      ∃ g c, e = .returned (.agg #[.slice (some ⟨g, 0, none⟩) la c, .int .i64 (T.k : Int), .int .i64 (T.x : Int), .int .i64 (T.y : Int), .int .i64 (T.st : Int), .int .i64 (T.u : Int), .int .i64 (T.v : Int), .int .i64 (T.w : Int), .int .i64 (T.r : Int), .bool T.dn, .int .i64 (T.res : Int)]) ∧ w.heap.size ≤ g ∧ Own w' g U ∧ Below w.heap.size w w' := by
  subst hT hU
  exact rstep_any a b la ca cb pr up t w I hp hhi hq hhi2 hm

theorem rbegin_t (n : Nat) (k x y : Nat) (w : World) (h : okO n (k, x, y)) : Calls Try.prog 10 #[.agg #[.int .i64 (k : Int), .int .i64 (x : Int), .int .i64 (y : Int)], .int .i64 (n : Int)] w fun e w' =>
    e = .returned (.agg #[.int .i64 (k : Int), .int .i64 (x : Int), .int .i64 (y : Int), .int .i64 1, .int .i64 (x : Int), .int .i64 (y : Int), .int .i64 0, .int .i64 0, .bool false, .int .i64 0, .bool true]) ∧ Below w.heap.size w w' := by
  obtain ⟨h1, h2, h3, h4⟩ := h
  dsimp only at h1 h2 h3 h4
  have := rbegin_any (k : Int) (x : Int) (y : Int) (n : Int) w
  rw [begR_yes ⟨by omega, by omega, ⟨by omega, by omega⟩, fun _ => ⟨by omega, by omega⟩⟩] at this
  exact this

theorem field_t (k x y st u v ww r : Int) (dn : Bool) (res : Int) (ok : Bool) (w : World) : (Instr.field 31 (.agg #[.int .i64 k, .int .i64 x, .int .i64 y, .int .i64 st, .int .i64 u, .int .i64 v, .int .i64 ww, .int .i64 r, .bool dn, .int .i64 res, .bool ok]) 0).run Try.prog w = .ok (.agg #[.int .i64 k, .int .i64 x, .int .i64 y, .int .i64 st, .int .i64 u, .int .i64 v, .int .i64 ww, .int .i64 r, .bool dn, .int .i64 res]) w := by
  kernel_rfl

theorem RowF.two {α : Type} {f : α → Value} {d : α} {lo hi : Nat} {w w' : World} {a : Option Addr} {len : Nat} {xs : List α} {b1 b2 : Nat} (h : RowF f d lo hi w a len xs) (ht : Two b1 b2 w w') (hh : hi ≤ w.heap.size) (h1 : b1 < lo ∨ hi ≤ b1) (h2 : b2 < lo ∨ hi ≤ b2) : RowF f d lo hi w' a len xs :=
  h.agree fun k h3 h4 => ht.block k (by omega) (by omega) (by omega)

theorem for_range (n : Nat) (pr : List Int) : For n pr (List.range n) := ⟨by simp, fun x hx => by rw [el_range hx]; exact hx, fun x hx => .inl (el_range hx)⟩

set_option maxRecDepth 100000 in
set_option maxHeartbeats 2000000 in
theorem cells_any (a b : Option Addr) (la ca n cb : Nat) (ns : List Nat) (pr : List Int) (w : World) {lo hi lo2 hi2 : Nat} (hp : RowY lo hi w a la ns) (hby : ∀ i, i < la → ns.getD i 0 ≤ 255) (hhi : hi ≤ w.heap.size) (hm : la ≤ 1000)
    (hq : Row lo2 hi2 w b n pr) (hhi2 : hi2 ≤ w.heap.size) (hn0 : 0 < n) (hn : n ≤ 1000) :
    Calls Try.prog 16 #[.slice a la ca, .slice b n cb] w fun e w' => ∃ a' c up, e = .returned (.slice a' n c) ∧ RowN w.heap.size w'.heap.size w' a' n up ∧ Hid (For n pr up) ∧ Below w.heap.size w w' := by
  have HP := Lib.hid hp
  have HBY := Lib.hid hby
  have HQ := Lib.hid hq
  have hcut := cutN_nat (n := n) (by omega)
  have HN : Hid (∀ w, Calls Try.prog 26 #[.int .i64 (n : Int)] w fun e w' => ∃ a c, e = .returned (.slice a n c) ∧ RowN w.heap.size w'.heap.size w' a n (List.range n) ∧ (a = none → c = 0) ∧ Below w.heap.size w w') := fun w => by
    have := rnew_any (n : Int) w
    rwa [hcut] at this
  clear hp hby hq hcut
  go_enter Try.func16, Try.ntmps16
  go_wp2_with fail
  refine (HN.out _).mono ?_
  rintro e w1 ⟨a1, c1, rfl, hr1, _, hb1⟩
  have s1 := hb1.size
  go_wp2_with fail
  refine (ops_any a la ca ns n _ (HP.out.below hb1 hhi) HBY.out (by omega) hm hn0 hn).mono ?_
  rintro e w2 ⟨v, rfl, hops, hb2⟩
  have s2 := hb2.size
  obtain ⟨m, os, hml, hown, hok⟩ := hops
  have HR2 : Hid (∃ lo hi, RowN lo hi w2 a1 n (List.range n) ∧ w.heap.size ≤ lo ∧ hi ≤ w2.heap.size) := ⟨_, _, hr1.below hb2 (Nat.le_refl _), Nat.le_refl _, s2⟩
  have HB2 : Hid (Below w.heap.size w w2) := hb1.trans (hb2.mono s1)
  have HOWN := Lib.hid hown
  have HOK := Lib.hid hok
  clear hr1 hb1 hb2 hown hok
  have hvl : ∃ ao ao2 cap, v = .slice ao m cap ∧ ao2 = ao := by
    have := HOWN.out
    rcases this.2 with ⟨e, h0⟩ | ⟨g, cap, cur, e, _⟩
    · exact ⟨none, none, 0, by rw [e, h0], rfl⟩
    · exact ⟨_, _, cap, e, rfl⟩
  obtain ⟨ao, _, cap, hv, _⟩ := hvl
  subst hv
  have sw := HB2.out.size
  go_wp2_with fail
  go_loopw [5, 7] (fun uv iv wr => ∃ (k : Nat) (a' : Option Addr) (c : Nat) (up : List Nat), k ≤ m ∧ iv = .int .i64 (k : Int) ∧ uv = .slice a' n c ∧ Hid (∃ lo hi, RowN lo hi wr a' n up ∧ w.heap.size ≤ lo ∧ hi ≤ wr.heap.size) ∧ Hid (For n pr up) ∧ Below w2.heap.size w2 wr) (fun _ iv _ => m - (intOf iv).toNat)
  case atStart => exact ⟨0, a1, c1, List.range n, Nat.zero_le _, rfl, rfl, HR2, for_range n pr, Below.refl _ _⟩
  case round =>
    clear HR2
    obtain ⟨k, a3, c3, up, hk, rfl, rfl, hr, hF, hb⟩ := hrel
    have s3 := hb.size
    by_cases hlt : k < m
    · obtain ⟨g, cap', e', hg, hg2⟩ := HOWN.out.form (by omega)
      cases e'
      have hol : os.length = m := by have := HOWN.out.1; rw [cellsO_length] at this; omega
      have hat := cellsO_at os k (by omega)
      have k1 := (hb.cell (p := ⟨g, k * 3, none⟩) hg2).trans ((HOWN.out.cellAt (k * 3) (by omega)).trans hat.1)
      have k2 := (hb.cell (p := ⟨g, k * 3 + 1, none⟩) hg2).trans ((HOWN.out.cellAt (k * 3 + 1) (by omega)).trans hat.2.1)
      have k3 := (hb.cell (p := ⟨g, k * 3 + 2, none⟩) hg2).trans ((HOWN.out.cellAt (k * 3 + 2) (by omega)).trans hat.2.2)
      have hq0 : okO n (os.getD k (0, 0, 0)) := HOK.out _ (by rw [List.getD_eq_getElem?_getD, List.getElem?_eq_getElem (by omega)]; simp)
      generalize os.getD k (0, 0, 0) = q at *
      obtain ⟨K, X, Y⟩ := q
      dsimp only at k1 k2 k3
      have HQ0 := Lib.hid hq0
      have hgw : g < wr.heap.size := by omega
      have hk0 : (0 : Int) ≤ (k : Int) := by omega
      have hk1 : (k : Int) < (m : Int) := by omega
      have HB := Lib.hid hb
      clear hat hol hb hq0
      go_wp2_with fail
      refine (rbegin_t n K X Y _ HQ0.out).mono ?_
      rintro e w4 ⟨rfl, hb4⟩
      have s4 := hb4.size
      have HQ1 := HQ0.out
      obtain ⟨q1, q2, q3, q4⟩ := HQ1
      dsimp only at q1 q2 q3 q4
      have HB4 : Hid (Below w2.heap.size w2 w4) := HB.out.trans (hb4.mono s3)
      have HR4 : Hid (∃ lo hi, RowN lo hi w4 a3 n up ∧ w.heap.size ≤ lo ∧ hi ≤ wr.heap.size) := by
        obtain ⟨l1, h1, h2, h3, h4⟩ := hr.out
        exact ⟨l1, h1, h2.below hb4 h4, h3, h4⟩
      have HTB : Hid (Box (w4.alloc (.cells (Tk.mk K X Y 1 X Y 0 0 false 0).cells.toArray 27)) w4.heap.size 27 (Tk.mk K X Y 1 X Y 0 0 false 0).cells) := Box.new _ _ _
      have HI : Hid (Inv n pr up (Tk.mk K X Y 1 X Y 0 0 false 0)) := inv_new q1 q2 q3 q4
      clear hb4 hr HB
      have hfd := fun W : World => field_t (K : Int) (X : Int) (Y : Int) 1 (X : Int) (Y : Int) 0 0 false 0 true W
      go_wp2_with fail
      go_loopw [5, 9] (fun uv iv wx => ∃ (kk : Nat) (t : Tk) (a' : Option Addr) (c : Nat) (up : List Nat), kk ≤ 1000 ∧ iv = .int .i64 (kk : Int) ∧ uv = .slice a' n c ∧ Hid (∃ lo hi, RowN lo hi wx a' n up ∧ w.heap.size ≤ lo ∧ hi ≤ wx.heap.size ∧ (w4.heap.size < lo ∨ hi ≤ w4.heap.size)) ∧ Hid (For n pr up) ∧ Hid (Inv n pr up t) ∧ Hid (Box wx w4.heap.size 27 t.cells) ∧ Below w2.heap.size w2 wx) (fun _ iv _ => 1000 - (intOf iv).toNat)
      case atStart =>
        refine ⟨0, Tk.mk K X Y 1 X Y 0 0 false 0, a3, c3, up, by omega, rfl, rfl, ?_, hF, HI, HTB, HB4.out.alloc (by omega) _⟩
        obtain ⟨l1, h1, h2, h3, h4⟩ := HR4.out
        exact ⟨l1, h1, h2.alloc (by omega) _, h3, by simp; omega, .inr (by omega)⟩
      case round =>
        clear HTB HI HR4 HB4 hF
        obtain ⟨kk, t, a5, c5, up5, hkk, rfl, rfl, hr, hF, hI, hT, hb⟩ := hrel
        have s5 := hb.size
        have htb := hT.out.lt
        obtain ⟨_, _, _, _, _, _, _, _, _, _⟩ := Tk.ten hT.out
        have HB := Lib.hid hb
        clear hb
        by_cases hlt2 : kk < 1000
        · obtain ⟨T, hTs⟩ : ∃ T, tks up5 pr t = T := ⟨_, rfl⟩
          obtain ⟨U, hU⟩ : ∃ U, ups up5 pr t = U := ⟨_, rfl⟩
          have ok5 := step_ok hF.out hI.out
          rw [hTs, hU] at ok5
          have HT5 := Lib.hid hTs
          have HU5 := Lib.hid hU
          have HOK5 := Lib.hid ok5
          clear hTs hU ok5
          obtain ⟨l5, h5, hr5, hl5, hh5, hap⟩ := hr.out
          have HR5 := Lib.hid hr5
          have HAP := Lib.hid hap
          clear hr5 hap
          go_wp2_with fail
          · refine (rstep_t a5 b n c5 cb pr up5 t _ hI.out HR5.out hh5 (HQ.out.below (HB2.out.trans (HB.out.mono sw)) hhi2) (by omega) (by omega) T HT5.out U HU5.out).mono ?_
            rintro e w6 ⟨g6, c6, rfl, hg6, ho6, hb6⟩
            have s6 := hb6.size
            have HT6 := Lib.hid (hT.out.below hb6)
            have HO6 := Lib.hid ho6
            have HB6 : Hid (Below w2.heap.size w2 w6) := HB.out.trans (hb6.mono s5)
            have H1 := Lib.hid (Tk.one T)
            have n6 : g6 ≠ w4.heap.size := by omega
            clear ho6 hb6
            go_wp2_with (refine wpList_store_box rfl 27 _ _ rfl w4.heap.size T.cells rfl rfl 27 _ (HT6.out.alloc _) Try.taskSize rfl H1.out ?_; intro w7 BT7 ht7)
            have s7 := ht7.size
            rw [World.size_alloc] at s7
            have HO7 := Lib.hid (ht7.own (HO6.out.alloc _) n6 n6)
            have HB7 : Hid (Below w2.heap.size w2 w7) := (HB6.out.alloc (by omega) _).trans (ht7.below (by simp; omega) (by omega) (by omega))
            have HT7 := Lib.hid BT7
            clear BT7 ht7
            go_roundw
            case rel =>
              refine ⟨kk + 1, T, _, _, U, by omega, by go_num, rfl, ?_, HOK5.out.1, HOK5.out.2.1, HT7, HB7.out⟩
              exact ⟨g6, w7.heap.size, HO7.out.row HOK5.out.1.len (Nat.le_refl _) HO7.out.1, by omega, Nat.le_refl _, .inl (by omega)⟩
            case measure => simp [intOf]; omega
          · go_roundw
            case rel => exact ⟨k + 1, a5, c5, up5, by omega, by go_num, rfl, ⟨l5, h5, HR5.out, hl5, hh5⟩, hF, HB.out⟩
            case measure => simp [intOf]; omega
        · obtain ⟨l5, h5, hr5, hl5, hh5, hap⟩ := hr.out
          have HR5 := Lib.hid hr5
          clear hr5 hap
          go_wp2_with fail
          go_roundw
          case rel => exact ⟨k + 1, a5, c5, up5, by omega, by go_num, rfl, ⟨l5, h5, HR5.out, hl5, hh5⟩, hF, HB.out⟩
          case measure => simp [intOf]; omega
    · obtain rfl : k = m := by omega
      obtain ⟨l5, h5, hr5, hl5, hh5⟩ := hr.out
      go_wp2_with fail
      go_ret
      exact ⟨_, _, up, rfl, hr5.mono hl5 hh5, hF, HB2.out.trans (hb.mono sw)⟩

end Go.Proofs.Ytigcddafiaadiaa
