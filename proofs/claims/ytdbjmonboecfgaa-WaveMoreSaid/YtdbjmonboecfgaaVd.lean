/- The document's Levels. -/
import Derived.Test.YtdbjmonboecfgaaVw
import Derived.Test.YtdbjmonboecfgaaGgo
namespace Go.Proofs.Ytdbjmonboecfgaa
open Go.RowKit Go.Maps
set_option linter.unusedVariables false
set_option linter.unusedSimpArgs false

/-- Rounds so far, groups so far. -/
structure LI (g : Gr) (r i : Nat) (O : List Nat) : Prop where
  len : O.length = (grpL g).length
  le : ∀ s, s < (grpL g).length → el O s ≤ lvF g s
  new : ∀ s, s < i → s < (grpL g).length → min (lvF g s) (r + 1) ≤ el O s
  old : ∀ s, s < (grpL g).length → min (lvF g s) r ≤ el O s
/-- Of group i the first k nodes, of node k the first j edges. -/
structure LJ (g : Gr) (r i k j : Nat) (O : List Nat) : Prop where
  base : LI g r i O
  row : ∀ k' x jj y : Nat, (rowG (grpL g) i)[k']? = some (x : Int) → (rowG g x)[jj]? = some (y : Int) → y < g.length → gof g y ≠ i → (k' < k ∨ k' = k ∧ jj < j) → min (lvF g (gof g y)) r + 1 ≤ el O i
section
variable {g : Gr} {r i k j : Nat} {O : List Nat}
theorem LI.zero (g : Gr) : LI g 0 0 (List.replicate (grpL g).length 0) :=
  ⟨by simp, fun s _ => by rw [el_zeros]; exact Nat.zero_le _, fun s h => by omega, fun s _ => by rw [el_zeros]; omega⟩
theorem LI.start (h : LI g r i O) : LJ g r i 0 0 O := ⟨h, fun k' x jj y _ _ _ _ h => by omega⟩
theorem LJ.skip (h : LJ g r i k j O) {x : Nat} (hx : (rowG (grpL g) i)[k]? = some (x : Int)) {Y : Int} (hY : (rowG g x)[j]? = some Y) (hs : ∀ y : Nat, Y = (y : Int) → y < g.length → gof g y = i) : LJ g r i k (j + 1) O := by
  refine ⟨h.base, fun k' x' jj y h1 h2 h3 h4 h5 => ?_⟩
  by_cases e : k' < k ∨ k' = k ∧ jj < j
  · exact h.row k' x' jj y h1 h2 h3 h4 e
  · have e1 : k' = k := by omega
    have e2 : jj = j := by omega
    subst e1 e2
    rw [hx] at h1
    have : x = x' := by have := Option.some.inj h1; omega
    subst this
    rw [hY] at h2
    exact absurd (hs y (Option.some.inj h2) h3) h4
theorem LJ.edge (h : LJ g r i k j O) (hi : i < (grpL g).length) {x y : Nat} (hx : (rowG (grpL g) i)[k]? = some (x : Int)) (hY : (rowG g x)[j]? = some (y : Int)) (hy : y < g.length) (hn : gof g y ≠ i) : LJ g r i k (j + 1) (O.set i (max (el O i) (el O (gof g y) + 1))) := by
  obtain ⟨x', ex, hxl, hxg⟩ := grp_at hi (List.mem_of_getElem? hx)
  have ex : x = x' := by omega
  subst ex
  have hE : gE g i (gof g y) := ⟨fun e => hn e.symm, x, y, hxl, ⟨List.mem_of_getElem? hY, hy⟩, hxg, rfl⟩
  have hyl := gof_lt hy
  have hil : i < O.length := by rw [h.base.len]; exact hi
  have hmono : ∀ s, el O s ≤ el (O.set i (max (el O i) (el O (gof g y) + 1))) s := fun s => by
    by_cases e : i = s
    · subst e; rw [el_set_self hil]; omega
    · rw [el_set_other e]; exact Nat.le_refl _
  refine ⟨⟨by simp [h.base.len], fun s hs => ?_, fun s h1 h2 => Nat.le_trans (h.base.new s h1 h2) (hmono s), fun s hs => Nat.le_trans (h.base.old s hs) (hmono s)⟩, fun k' x' jj y' h1 h2 h3 h4 h5 => ?_⟩
  · by_cases e : i = s
    · subst e
      rw [el_set_self hil]
      have h1 := h.base.le i hs
      have h2 := h.base.le _ hyl
      have h3 := lv_lt hE
      omega
    · rw [el_set_other e]; exact h.base.le s hs
  · by_cases e : k' < k ∨ k' = k ∧ jj < j
    · exact Nat.le_trans (h.row k' x' jj y' h1 h2 h3 h4 e) (hmono i)
    · have e1 : k' = k := by omega
      have e2 : jj = j := by omega
      subst e1 e2
      rw [hx] at h1
      have : x = x' := by have := Option.some.inj h1; omega
      subst this
      rw [hY] at h2
      have : y = y' := by have := Option.some.inj h2; omega
      subst this
      rw [el_set_self hil]
      have := h.base.old _ hyl
      omega
theorem LJ.turn {x : Nat} (h : LJ g r i k (rowG g x).length O) (hx : (rowG (grpL g) i)[k]? = some (x : Int)) : LJ g r i (k + 1) 0 O := by
  refine ⟨h.base, fun k' x' jj y h1 h2 h3 h4 h5 => h.row k' x' jj y h1 h2 h3 h4 ?_⟩
  by_cases e : k' = k
  · subst e
    rw [hx] at h1
    have : x = x' := by have := Option.some.inj h1; omega
    subst this
    exact .inr ⟨rfl, (List.getElem?_eq_some_iff.1 h2).1⟩
  · left; omega
theorem LJ.done (h : LJ g r i (rowG (grpL g) i).length 0 O) (hi : i < (grpL g).length) : LI g r (i + 1) O := by
  refine ⟨h.base.len, h.base.le, fun s h1 h2 => ?_, h.base.old⟩
  by_cases e : s = i
  · subst e
    rcases lv_at h2 with q | ⟨t, ⟨hne, x, y, hx, he, rfl, rfl⟩, q⟩
    · omega
    · obtain ⟨k', hk'⟩ := List.getElem?_of_mem (gof_mem hx)
      obtain ⟨jj, hj⟩ := List.getElem?_of_mem he.1
      have := h.row k' x jj y hk' hj he.2 (fun q => hne q.symm) (.inl (List.getElem?_eq_some_iff.1 hk').1)
      omega
  · exact h.base.new s (by omega) h2
theorem LI.round (h : LI g r (grpL g).length O) : LI g (r + 1) 0 O := ⟨h.len, h.le, fun s h => by omega, fun s hs => h.new s hs hs⟩
theorem LI.done (h : LI g (grpL g).length 0 O) : O = lvL g := by
  refine ext_el (by rw [h.len, lvL_len]) fun s hs => ?_
  rw [h.len] at hs
  rw [lvL_el hs]
  have h1 := h.le s hs
  have h2 := h.old s hs
  have h3 := lv_le g s
  omega
theorem LI.el_le (h : LI g r i O) {s : Nat} (hs : s < (grpL g).length) : el O s ≤ (grpL g).length := Nat.le_trans (h.le s hs) (lv_le g s)
end

theorem Box.agree_ {w w' : World} {b : Nat} {t : TypeId} {cs : List Value} (h : Box w b t cs) (hb : w'.heap[b]? = w.heap[b]?) : Box w' b t cs := hb.trans h

set_option maxRecDepth 100000 in
set_option maxHeartbeats 16000000 in
theorem rlevels_any {hi : Nat} (ag : Option Addr) (n cg : Nat) (g : Gr) (w : World) (hg : GI hi w ag n g) (hh : hi ≤ w.heap.size) (hn : n ≤ 10000) :
    Calls Try.prog 16 #[.slice ag n cg] w fun e w' => Below w.heap.size w w' ∧ ∃ q, e = .returned (.slice (some ⟨q, 0, none⟩) (grpL g).length (grpL g).length) ∧ w.heap.size ≤ q ∧ Box w' q 3 (intsOf (lvL g)) := by
  have HGN := Lib.hid hg.1
  have HGI := Lib.hid hg
  have HHI := Lib.hid hh
  have HOF := Lib.hid (rgroups_any ag n cg g w hg hh hn)
  obtain ⟨m, hm⟩ : ∃ m, (grpL g).length = m := ⟨_, rfl⟩
  have hmn : m ≤ 10000 := by
    have h9 : (grpL g).length ≤ g.length := grpI_len
    rw [hm] at h9
    have := HGN.out
    omega
  obtain ⟨i0, hi0, hz0, hz1, hz2⟩ := info_parts Try.info3
  have hmk0 : ∀ (k : Nat) (W : World), k ≤ 10000 → (Instr.makeSlice 26 (.int .i64 (k : Int)) (.int .i64 (k : Int))).run Try.prog W = .ok (.slice (some ⟨W.heap.size, 0, none⟩) k k) (W.alloc (.cells (List.replicate k (Value.int .i64 0)).toArray 3)) := fun n W hn => by
    have h := run_make (P := Try.prog) W 26 3 i0 (.int .i64 0) Try.underlying26 hi0 hz0 .i64 .i64 (n : Int) (n : Int) (by omega) (by omega) (by rw [hz2]; omega) (by omega)
    rw [hz1] at h
    have hm : madeCells (Value.int .i64 0).cells (((n : Nat) : Int).toNat * 1) = (List.replicate n (Value.int .i64 0)).toArray := by
      apply Array.ext'
      have := toList_madeCells_one (Value.int .i64 0) n
      rw [show (Value.int .i64 0).cells = #[Value.int .i64 0] from rfl]
      simpa using this
    rw [hm] at h
    simpa using h
  obtain ⟨MB, hMB⟩ : ∃ MB, (List.replicate n (Value.int .i64 0)).toArray = MB := ⟨_, rfl⟩
  obtain ⟨MC, hMC⟩ : ∃ MC, (List.replicate m (Value.int .i64 0)).toArray = MC := ⟨_, rfl⟩
  have hmk := fun W => hmk0 n W hn
  have hmk2 := fun W => hmk0 m W hmn
  rw [hMB] at hmk
  rw [hMC] at hmk2
  have HMB := Lib.hid hMB
  have HMC := Lib.hid hMC
  have HMK2 := Lib.hid hmk2
  obtain ⟨Lg, hLg⟩ : ∃ Lg, grpL g = Lg := ⟨_, rfl⟩
  have HLG := Lib.hid hLg
  rw [hLg] at hm HOF ⊢
  have HM := Lib.hid hm
  rw [hm] at HOF ⊢
  clear hi0 hz0 hz1 hz2 hMB hMC hg hh hmk0 hmk2 hm hLg
  go_enter Try.func16, Try.ntmps16
  go_wp2_with (go_at_call 20; (with_reducible refine (HOF.out).mono ?_); rintro e w3 ⟨hb3, al, cl, rfl, hgi3⟩; have HB3 := Lib.hid hb3; have HG3 := Lib.hid hgi3; clear hb3 hgi3 HOF)
  have hbx : Box (w3.alloc (.cells MB 3)) w3.heap.size 3 (intsOf (List.replicate n 0)) := by
    rw [← HMB.out]
    have e : List.replicate n (Value.int .i64 0) = intsOf (List.replicate n 0) := by simp [intsOf]
    rw [e]
    exact Box.new _ _ _
  have hba : Below w3.heap.size w3 (w3.alloc (.cells MB 3)) := (Below.refl _ _).alloc (Nat.le_refl _) _
  obtain ⟨w4, hw4⟩ : ∃ w4, w3.alloc (.cells MB 3) = w4 := ⟨_, rfl⟩
  rw [hw4] at hbx hba ⊢
  obtain ⟨p, hp⟩ : ∃ p, w3.heap.size = p := ⟨_, rfl⟩
  have HP := Lib.hid hp
  rw [hp] at hbx hba ⊢
  have HX4 := Lib.hid hbx
  have HB4 := Lib.hid hba
  have HC4 := Lib.hid (OI.zero Lg n)
  have HE : Hid (Eqv (mutB g) g.length) := mutB_eqv' g
  have HD : Hid (∀ i i', i < Lg.length → i' < Lg.length → ∀ v : Nat, (v : Int) ∈ rowG Lg i → (v : Int) ∈ rowG Lg i' → i = i') := by
    show ∀ i i', _
    rw [← HLG.out]
    intro i i' hi hi' v hv hv'
    have hvn : v < g.length := by obtain ⟨j, e, hj⟩ := grp_in hi hv; omega
    exact (grp_same HE.out hi hi' hv hv').2 (HE.out.rfl_ v hvn)
  have HIN : Hid (∀ i, i < m → ∀ v ∈ rowG Lg i, ∃ j : Nat, v = (j : Int) ∧ j < n) := by
    show ∀ i, _
    rw [← HM.out, ← HLG.out]
    intro i hi v hv
    obtain ⟨j, e, hj⟩ := grp_in hi hv
    exact ⟨j, e, by have := HGN.out; omega⟩
  have hp1 : w.heap.size ≤ p := by rw [← hp]; exact HB3.out.size
  clear hw4 hbx hba hp hmk
  go_wp2_with fail
  go_loopw [5] (fun iv wr => ∃ (i : Nat) (C : List Nat), i ≤ m ∧ iv = .int .i64 (i : Int) ∧ Hid (OI Lg n i 0 C) ∧ Hid (Box wr p 3 (intsOf C)) ∧ Hid (Below p w3 wr)) (fun iv _ => m - (intOf iv).toNat)
  case atStart => exact ⟨0, _, Nat.zero_le _, rfl, HC4, HX4, HB4⟩
  case round =>
    clear HC4 HX4 HB4
    obtain ⟨i, C, hi1, rfl, HC, HX, HB⟩ := hrel
    by_cases hlt : i < m
    · have hg3 := HG3.out
      rw [HP.out] at hg3
      obtain ⟨gb, off, ai, ci, rfl, hgb, hcr0, hrow⟩ := hg3.row hlt
      obtain ⟨LL, hLL⟩ : ∃ LL, (rowG Lg i).length = LL := ⟨_, rfl⟩
      have hLs : LL ≤ 1000000 := by rw [← hLL]; exact hg3.2.2.1 i
      rw [hLL] at hcr0 hrow
      have T2 : ∀ W, Sem.run Try.prog (Instr.indexAt 23 (.slice (some ⟨gb, off, none⟩) m cl) (.int .i64 (i : Int))) W = .ok (.pointer (some ⟨gb, off + i, none⟩)) W := fun W => by go_simp
      have HRW := Lib.hid hrow
      have HLL := Lib.hid hLL
      have HCR := Lib.hid hcr0
      clear hcr0 hLL hrow hg3
      go_wp2_with fail
      go_loopw [6] (fun jv wx => ∃ (j : Nat) (C2 : List Nat), j ≤ LL ∧ jv = .int .i64 (j : Int) ∧ Hid (OI Lg n i j C2) ∧ Hid (Box wx p 3 (intsOf C2)) ∧ Hid (Below p w3 wx)) (fun jv _ => LL - (intOf jv).toNat)
      case atStart => exact ⟨0, C, Nat.zero_le _, rfl, HC, HX, HB⟩
      case round =>
        clear HC HX HB
        obtain ⟨j, C2, hj, rfl, HC, HX, HB⟩ := hrel
        rename World => wx
        have hpl := HX.out.lt
        have hcr := (HB.out.cell (p := ⟨gb, off + i, none⟩) hgb).trans HCR.out
        have hgb1 : gb < wx.heap.size := by omega
        by_cases hltj : j < LL
        · obtain ⟨hrl, hrz⟩ := HRW.out
          obtain ⟨rb, ro, rfl, hrb1, hrb2, hrc⟩ := hrz.resolve_left (by omega)
          have hcp := (HB.out.cell (p := ⟨rb, ro + j, none⟩) hrb2).trans (hrc j hltj)
          obtain ⟨V, hV⟩ : ∃ V, (rowG Lg i).getD j 0 = V := ⟨_, rfl⟩
          rw [hV] at hcp
          have hpV : (rowG Lg i)[j]? = some V := by
            have hl := HLL.out
            rw [List.getElem?_eq_getElem (by rw [hl]; exact hltj)]
            rw [List.getD_eq_getElem?_getD, List.getElem?_eq_getElem (by rw [hl]; exact hltj)] at hV
            simpa using hV
          obtain ⟨v, rfl, hvk⟩ := HIN.out i hlt V (List.mem_of_getElem? hpV)
          have hrb : rb < wx.heap.size := by omega
          have T3 : ∀ W, Sem.run Try.prog (Instr.indexAt 26 (.slice (some ⟨rb, ro, none⟩) LL ci) (.int .i64 (j : Int))) W = .ok (.pointer (some ⟨rb, ro + j, none⟩)) W := fun W => by go_simp
          have HCN := Lib.hid (HC.out.next HD.out (by rw [HM.out]; exact hlt) hpV hvk)
          have hlen := HC.out.len
          have hcv := box_el HX.out (i := v) (by rw [hlen]; exact hvk)
          have hfv := HX.out.frozen v
          have HX2 : Hid (Box (wx.setCell ⟨p, v, none⟩ (.int .i64 (i : Int))) p 3 (intsOf (C2.set v i))) := by
            show Box _ _ _ _
            rw [← intsOf_set]
            exact Box.set HX.out v (.int .i64 (i : Int))
          have HB2 : Hid (Below p w3 (wx.setCell ⟨p, v, none⟩ (.int .i64 (i : Int)))) := HB.out.setCell (p := ⟨p, v, none⟩) (Nat.le_refl _) _
          clear hV hpV hlen hrl hrz hrc
          go_wp2_with fail
          go_roundw
          case rel => exact ⟨j + 1, _, by omega, by go_num, HCN, HX2, HB2⟩
          case measure => simp [intOf]; omega
        · have hjl : j = LL := by omega
          have hge : ¬ ((j : Int) < (LL : Int)) := by omega
          have HC2 : Hid (OI Lg n (i + 1) 0 C2) := by
            have := HC.out
            rw [hjl, ← HLL.out] at this
            exact this.turn
          clear hjl
          go_wp2_with fail
          go_roundw
          case rel => exact ⟨i + 1, C2, by omega, by go_num, HC2, HX, HB⟩
          case measure => simp [intOf]; omega
    · have him : i = m := by omega
      have hge : ¬ ((i : Int) < (m : Int)) := by omega
      have HXG : Hid (Box wr p 3 (intsOf (gofL g))) := by
        have h9 := HC.out
        rw [him] at h9
        have e : C = gofL g := OI.done (by rw [HGN.out, HLG.out, HM.out]; exact h9)
        rw [← e]; exact HX.out
      obtain ⟨w5, hw5⟩ : ∃ w5, wr = w5 := ⟨_, rfl⟩
      subst hw5
      have hmk2 := HMK2.out
      have hbx : Box (wr.alloc (.cells MC 3)) wr.heap.size 3 (intsOf (List.replicate m 0)) := by
        rw [← HMC.out]
        have e : List.replicate m (Value.int .i64 0) = intsOf (List.replicate m 0) := by simp [intsOf]
        rw [e]
        exact Box.new _ _ _
      have hxg : Box (wr.alloc (.cells MC 3)) p 3 (intsOf (gofL g)) := HXG.out.alloc _
      have hpl := HXG.out.lt
      have hba : Below p w3 (wr.alloc (.cells MC 3)) := HB.out.alloc (by omega) _
      obtain ⟨w6, hw6⟩ : ∃ w6, wr.alloc (.cells MC 3) = w6 := ⟨_, rfl⟩
      obtain ⟨o, ho⟩ : ∃ o, wr.heap.size = o := ⟨_, rfl⟩
      rw [hw6] at hbx hxg hba
      rw [ho] at hbx hpl
      have HX6 := Lib.hid hbx
      have HXG6 := Lib.hid hxg
      have HB6 := Lib.hid hba
      have HLI : Hid (LI g 0 0 (List.replicate m 0)) := by
        have := LI.zero g
        rw [HLG.out, HM.out] at this
        exact this
      clear hbx hxg hba HX HXG HC him
      go_wp2_with fail
      clear hw6 ho hmk2
      have hh := HHI.out
      have HWB : Hid (Below w.heap.size w w6) := HB3.out.trans (HB6.out.mono hp1)
      have HGW : Hid (GI hi w6 ag n g) := HGI.out.below HWB.out hh
      have HH6 : Hid (hi ≤ w6.heap.size) := Nat.le_trans hh HWB.out.size
      have HG6 : Hid (GI p w6 al m Lg) := by
        have h1 := HG3.out
        rw [HP.out] at h1
        exact h1.below HB6.out (Nat.le_refl _)
      have hpo : p < o := hpl
      have hwo : w.heap.size ≤ o := by omega
      have hh2 : hi ≤ o := by omega
      have hols := HX6.out.lt
      have HBB : Hid (Below o w6 w6) := Below.refl _ _
      clear hpl hols HB6 HGI HG3
      go_loopw [8] (fun iv wa => ∃ (r : Nat) (O : List Nat), r ≤ m ∧ iv = .int .i64 (r : Int) ∧ Hid (LI g r 0 O) ∧ Hid (Box wa o 3 (intsOf O)) ∧ Hid (Below o w6 wa)) (fun iv _ => m - (intOf iv).toNat)
      case atStart => exact ⟨0, _, Nat.zero_le _, rfl, HLI, HX6, HBB⟩
      case round =>
        clear HLI HX6 HBB
        obtain ⟨r, O, hr, rfl, HLI, HX, HB⟩ := hrel
        rename World => wa
        by_cases hltr : r < m
        · have HLI0 := HLI
          go_wp2_with fail
          go_loopw [9] (fun iv wb => ∃ (i : Nat) (O : List Nat), i ≤ m ∧ iv = .int .i64 (i : Int) ∧ Hid (LI g r i O) ∧ Hid (Box wb o 3 (intsOf O)) ∧ Hid (Below o w6 wb)) (fun iv _ => m - (intOf iv).toNat)
          case atStart => exact ⟨0, _, Nat.zero_le _, rfl, HLI, HX, HB⟩
          case round =>
            clear HLI HX HB HLI0
            clear O
            obtain ⟨i, O, hi1, rfl, HLI, HX, HB⟩ := hrel
            rename World => wb
            by_cases hlti : i < m
            · obtain ⟨gb, off, ai, ci, hal, hgb, hcr0, hrow⟩ := HG6.out.row hlti
              obtain ⟨LL, hLL⟩ : ∃ LL, (rowG Lg i).length = LL := ⟨_, rfl⟩
              have hLs : LL ≤ 1000000 := by rw [← hLL]; exact HG6.out.2.2.1 i
              rw [hLL] at hcr0 hrow
              have HRW := Lib.hid hrow
              have HLL := Lib.hid hLL
              have HCR := Lib.hid hcr0
              have HLJ : Hid (LJ g r i 0 0 O) := HLI.out.start
              subst hal
              have T2 : ∀ W, Sem.run Try.prog (Instr.indexAt 23 (.slice (some ⟨gb, off, none⟩) m cl) (.int .i64 (i : Int))) W = .ok (.pointer (some ⟨gb, off + i, none⟩)) W := fun W => by go_simp
              clear hcr0 hLL hrow
              go_wp2_with fail
              go_loopw [10] (fun kv wc => ∃ (k : Nat) (O : List Nat), k ≤ LL ∧ kv = .int .i64 (k : Int) ∧ Hid (LJ g r i k 0 O) ∧ Hid (Box wc o 3 (intsOf O)) ∧ Hid (Below o w6 wc)) (fun kv _ => LL - (intOf kv).toNat)
              case atStart => exact ⟨0, O, Nat.zero_le _, rfl, HLJ, HX, HB⟩
              case round =>
                clear HLI HX HB HLJ
                clear O
                obtain ⟨k, O, hk, rfl, HLJ, HX, HB⟩ := hrel
                rename World => wc
                have hol := HX.out.lt
                have hcr := (HB.out.cell (p := ⟨gb, off + i, none⟩) (show gb < o by omega)).trans HCR.out
                have hgb1 : gb < wc.heap.size := by omega
                by_cases hltk : k < LL
                · obtain ⟨hrl, hrz⟩ := HRW.out
                  obtain ⟨rb, ro, hai, hrb1, hrb2, hrc⟩ := hrz.resolve_left (by omega)
                  subst hai
                  have hcp := (HB.out.cell (p := ⟨rb, ro + k, none⟩) (show rb < o by omega)).trans (hrc k hltk)
                  obtain ⟨V, hV⟩ : ∃ V, (rowG Lg i).getD k 0 = V := ⟨_, rfl⟩
                  rw [hV] at hcp
                  have hpV : (rowG Lg i)[k]? = some V := by
                    have hl := HLL.out
                    rw [List.getElem?_eq_getElem (by rw [hl]; exact hltk)]
                    rw [List.getD_eq_getElem?_getD, List.getElem?_eq_getElem (by rw [hl]; exact hltk)] at hV
                    simpa using hV
                  obtain ⟨x, rfl, hxn⟩ := HIN.out i hlti V (List.mem_of_getElem? hpV)
                  have HPX := Lib.hid hpV
                  have hrb : rb < wc.heap.size := by omega
                  have T3 : ∀ W, Sem.run Try.prog (Instr.indexAt 26 (.slice (some ⟨rb, ro, none⟩) LL ci) (.int .i64 (k : Int))) W = .ok (.pointer (some ⟨rb, ro + k, none⟩)) W := fun W => by go_simp
                  obtain ⟨xb, xo, xa, xc, hag, hxb, hxr0, hxrow⟩ := HGW.out.row hxn
                  obtain ⟨LX, hLX⟩ : ∃ LX, (rowG g x).length = LX := ⟨_, rfl⟩
                  have hLXs : LX ≤ 1000000 := by rw [← hLX]; exact HGW.out.2.2.1 x
                  rw [hLX] at hxr0 hxrow
                  have hxr := (HB.out.cell (p := ⟨xb, xo + x, none⟩) (show xb < o by omega)).trans hxr0
                  subst hag
                  have hxb1 : xb < wc.heap.size := by omega
                  have T4 : ∀ W, Sem.run Try.prog (Instr.indexAt 23 (.slice (some ⟨xb, xo, none⟩) n cg) (.int .i64 (x : Int))) W = .ok (.pointer (some ⟨xb, xo + x, none⟩)) W := fun W => by go_simp
                  have HXR := Lib.hid hxrow
                  have HLX := Lib.hid hLX
                  clear hV hpV hrl hrz hrc hxr0 hxrow hLX
                  go_wp2_with fail
                  clear hxr hxb1 hcr hgb1 hcp hrb hol
                  go_loopw [12] (fun jv wd => ∃ (j : Nat) (O : List Nat), j ≤ LX ∧ jv = .int .i64 (j : Int) ∧ Hid (LJ g r i k j O) ∧ Hid (Box wd o 3 (intsOf O)) ∧ Hid (Below o w6 wd)) (fun jv _ => LX - (intOf jv).toNat)
                  case atStart => exact ⟨0, O, Nat.zero_le _, rfl, HLJ, HX, HB⟩
                  case round =>
                    clear HLJ HX HB
                    clear O
                    obtain ⟨j, O, hj, rfl, HLJ, HX, HB⟩ := hrel
                    rename World => wd
                    by_cases hltj : j < LX
                    · obtain ⟨hrl, hrz⟩ := HXR.out
                      obtain ⟨yb, yo, hxa, _, hyb, hyc⟩ := hrz.resolve_left (by omega)
                      subst hxa
                      have hol := HX.out.lt
                      obtain ⟨Y, hY⟩ : ∃ Y, (rowG g x).getD j 0 = Y := ⟨_, rfl⟩
                      have hcy := (HB.out.cell (p := ⟨yb, yo + j, none⟩) (show yb < o by omega)).trans (hyc j hltj)
                      rw [hY] at hcy
                      have hpY : (rowG g x)[j]? = some Y := by
                        rw [List.getElem?_eq_getElem (by rw [hrl]; exact hltj)]
                        rw [List.getD_eq_getElem?_getD, List.getElem?_eq_getElem (by rw [hrl]; exact hltj)] at hY
                        simpa using hY
                      have hyb1 : yb < wd.heap.size := by omega
                      have T5 : ∀ W, Sem.run Try.prog (Instr.indexAt 26 (.slice (some ⟨yb, yo, none⟩) LX xc) (.int .i64 (j : Int))) W = .ok (.pointer (some ⟨yb, yo + j, none⟩)) W := fun W => by go_simp
                      have HPY := Lib.hid hpY
                      have HSK : Hid ((∀ y : Nat, Y = (y : Int) → y < g.length → gof g y = i) → LJ g r i k (j + 1) O) := fun h => HLJ.out.skip (by rw [HLG.out]; exact HPX.out) HPY.out h
                      clear hY hpY hrl hrz hyc
                      by_cases hY0 : 0 ≤ Y
                      · by_cases hYn : Y < n
                        · obtain ⟨y, rfl⟩ : ∃ y : Nat, Y = y := ⟨Y.toNat, by omega⟩
                          have hyn : y < n := by omega
                          have hyg : y < g.length := by rw [HGN.out]; exact hyn
                          have hgx := HXG6.out.agree_ (HB.out.block p hpo)
                          have hpl := hgx.lt
                          have cy := box_el hgx (i := y) (by rw [gofL_len]; exact hyg)
                          rw [gofL_el hyg] at cy
                          have hym : gof g y < m := by have := gof_lt hyg; rw [HLG.out, HM.out] at this; exact this
                          have HED : Hid (gof g y ≠ i → LJ g r i k (j + 1) (O.set i (max (el O i) (el O (gof g y) + 1)))) := fun h => HLJ.out.edge (by rw [HLG.out, HM.out]; exact hlti) (by rw [HLG.out]; exact HPX.out) HPY.out hyg h
                          have HSK2 : Hid (gof g y = i → LJ g r i k (j + 1) O) := fun h => HSK.out fun y' e _ => by
                            have : y = y' := by omega
                            subst this; exact h
                          have hOl := HLJ.out.base.len
                          rw [HLG.out, HM.out] at hOl
                          have hb1 := HLJ.out.base.el_le (s := i) (by rw [HLG.out, HM.out]; exact hlti)
                          have hb2 := HLJ.out.base.el_le (s := gof g y) (by rw [HLG.out, HM.out]; exact hym)
                          rw [HLG.out, HM.out] at hb1 hb2
                          obtain ⟨t, ht⟩ : ∃ t, gof g y = t := ⟨_, rfl⟩
                          rw [ht] at cy hym HED HSK2 hb2
                          clear hgx ht HSK
                          by_cases hti : t = i
                          · subst hti
                            have HL2 : Hid (LJ g r t k (j + 1) O) := HSK2.out rfl
                            clear hb1 hb2
                            go_wp2_with fail
                            go_roundw
                            case rel => exact ⟨j + 1, O, by omega, by go_num, HL2, HX, HB⟩
                            case measure => simp [intOf]; omega
                          · have e3 : ((t : Int) == (i : Int)) = false := by simp; omega
                            have e4 : ((t : Int) != (i : Int)) = true := by simp; omega
                            have c1 := box_el HX.out (i := i) (by rw [hOl]; exact hlti)
                            have c2 := box_el HX.out (i := t) (by rw [hOl]; exact hym)
                            have f1 := HX.out.frozen i
                            have hk' := HED.out hti
                            have HXS : Hid (∀ X : Nat, Box (wd.setCell ⟨o, i, none⟩ (.int .i64 (X : Int))) o 3 (intsOf (O.set i X))) := fun X => by
                              rw [← intsOf_set]; exact HX.out.set i (.int .i64 (X : Int))
                            have HBS : Hid (∀ u, Below o w6 (wd.setCell ⟨o, i, none⟩ u)) := fun u => HB.out.setCell (p := ⟨o, i, none⟩) (Nat.le_refl _) _
                            obtain ⟨A, hA⟩ : ∃ A, el O i = A := ⟨_, rfl⟩
                            obtain ⟨Bt, hBt⟩ : ∃ Bt, el O t = Bt := ⟨_, rfl⟩
                            rw [hA] at c1 hk' hb1
                            rw [hBt] at c2 hk' hb2
                            obtain ⟨Bs, hBs⟩ : ∃ Bs, Bt + 1 = Bs := ⟨_, rfl⟩
                            obtain ⟨X, hX⟩ : ∃ X, max A Bs = X := ⟨_, rfl⟩
                            rw [hBs, hX] at hk'
                            have HK2 := Lib.hid hk'
                            have hwB : IntKind.i64.wrap ((Bt : Int) + 1) = (Bs : Int) := by rw [show (Bt : Int) + 1 = (Bs : Int) by omega]; exact IntWalk.i64_in _ (by omega)
                            have EX : (if A < Bs then (Bs : Int) else (A : Int)) = (X : Int) := by split <;> omega
                            have T6 : ∀ W, Sem.run Try.prog (Instr.indexAt 26 (.slice (some ⟨p, 0, none⟩) n n) (.int .i64 (y : Int))) W = .ok (.pointer (some ⟨p, y, none⟩)) W := fun W => by go_simp
                            have T7 : ∀ W, Sem.run Try.prog (Instr.indexAt 26 (.slice (some ⟨o, 0, none⟩) m m) (.int .i64 (i : Int))) W = .ok (.pointer (some ⟨o, i, none⟩)) W := fun W => by go_simp
                            have T8 : ∀ W, Sem.run Try.prog (Instr.indexAt 26 (.slice (some ⟨o, 0, none⟩) m m) (.int .i64 (t : Int))) W = .ok (.pointer (some ⟨o, t, none⟩)) W := fun W => by go_simp
                            clear hA hBt hBs hX hk' hOl HED HSK2
                            go_upto_region 25 with fail
                            go_region
                            go_wp2_with fail
                            go_roundw
                            case rel => exact ⟨j + 1, _, by omega, by go_num, HK2, Lib.hid (HXS.out _).drew, Lib.hid (HBS.out _).drew⟩
                            case measure => simp [intOf]; omega
                        · have e2 : ¬ Y < (n : Int) := hYn
                          have HL2 : Hid (LJ g r i k (j + 1) O) := HSK.out fun y e h => by have := HGN.out; omega
                          go_wp2_with fail
                          go_roundw
                          case rel => exact ⟨j + 1, O, by omega, by go_num, HL2, HX, HB⟩
                          case measure => simp [intOf]; omega
                      · have HL2 : Hid (LJ g r i k (j + 1) O) := HSK.out fun y e h => by omega
                        go_wp2_with fail
                        go_roundw
                        case rel => exact ⟨j + 1, O, by omega, by go_num, HL2, HX, HB⟩
                        case measure => simp [intOf]; omega
                    · have hjl : j = LX := by omega
                      have hge : ¬ ((j : Int) < (LX : Int)) := by omega
                      have HL2 : Hid (LJ g r i (k + 1) 0 O) := by
                        have := HLJ.out
                        rw [hjl, ← HLX.out] at this
                        exact this.turn (by rw [HLG.out]; exact HPX.out)
                      clear hjl
                      go_wp2_with fail
                      go_roundw
                      case rel => exact ⟨k + 1, O, by omega, by go_num, HL2, HX, HB⟩
                      case measure => simp [intOf]; omega
                · have hkl : k = LL := by omega
                  have hge : ¬ ((k : Int) < (LL : Int)) := by omega
                  have HL2 : Hid (LI g r (i + 1) O) := by
                    have := HLJ.out
                    rw [hkl, ← HLL.out, ← HLG.out] at this
                    exact this.done (by rw [HLG.out, HM.out]; exact hlti)
                  clear hkl
                  go_wp2_with fail
                  go_roundw
                  case rel => exact ⟨i + 1, O, by omega, by go_num, HL2, HX, HB⟩
                  case measure => simp [intOf]; omega
            · have him : i = m := by omega
              have hge : ¬ ((i : Int) < (m : Int)) := by omega
              have HL2 : Hid (LI g (r + 1) 0 O) := by
                have := HLI.out
                rw [him, ← HM.out, ← HLG.out] at this
                exact this.round
              clear him
              go_wp2_with fail
              go_roundw
              case rel => exact ⟨r + 1, O, by omega, by go_num, HL2, HX, HB⟩
              case measure => simp [intOf]; omega
        · have hrm : r = m := by omega
          have hge : ¬ ((r : Int) < (m : Int)) := by omega
          have HFIN : Hid (O = lvL g) := by
            have := HLI.out
            rw [hrm, ← HM.out, ← HLG.out] at this
            exact this.done
          have HRB : Hid (Below w.heap.size w wa) := HWB.out.trans (HB.out.mono hwo)
          clear hrm
          go_wp2_with fail
          go_ret
          have hx := HX.out
          rw [HFIN.out] at hx
          first | exact ⟨HRB.out, o, rfl, hwo, hx⟩ | exact ⟨HRB.out, hwo, hx⟩ | (trace_state; sorry)

end Go.Proofs.Ytdbjmonboecfgaa
