/- The law WaveAhead. -/
import Derived.Test.YtdbjmonboecfgaaVx
import Derived.Test.YtdbjmonboecfgaaGmk
import Derived.BigQuiet
namespace Go.Proofs.Ytdbjmonboecfgaa
open Go.RowKit Go.Maps
set_option linter.unusedVariables false
set_option linter.unusedSimpArgs false

/-- Is one of the level right below found, so far? -/
structure BL (g : Gr) (i k j : Nat) (b : Bool) : Prop where
  zero : lvF g i = 0 → b = true
  row : ∀ k' x jj y : Nat, (rowG (grpL g) i)[k']? = some (x : Int) → (rowG g x)[jj]? = some (y : Int) → y < g.length → gof g y ≠ i → lvF g (gof g y) + 1 = lvF g i → (k' < k ∨ k' = k ∧ jj < j) → b = true
section
variable {g : Gr} {i k j : Nat} {b : Bool}
theorem BL.start {b : Bool} (h : lvF g i = 0 → b = true) : BL g i 0 0 b := ⟨h, fun k' x jj y _ _ _ _ _ h => by omega⟩
theorem BL.step (h : BL g i k j b) {x y : Nat} (hx : (rowG (grpL g) i)[k]? = some (x : Int)) (hY : (rowG g x)[j]? = some (y : Int)) {b' : Bool} (hb : b = true → b' = true) (hn : gof g y ≠ i → lvF g (gof g y) + 1 = lvF g i → b' = true) : BL g i k (j + 1) b' := by
  refine ⟨fun q => hb (h.zero q), fun k' x' jj y' h1 h2 h3 h4 h5 h6 => ?_⟩
  by_cases e : k' < k ∨ k' = k ∧ jj < j
  · exact hb (h.row k' x' jj y' h1 h2 h3 h4 h5 e)
  · have e1 : k' = k := by omega
    have e2 : jj = j := by omega
    subst e1 e2
    rw [hx] at h1
    have : x = x' := by have := Option.some.inj h1; omega
    subst this
    rw [hY] at h2
    have : y = y' := by have := Option.some.inj h2; omega
    subst this
    exact hn h4 h5
theorem BL.turn {x : Nat} (h : BL g i k (rowG g x).length b) (hx : (rowG (grpL g) i)[k]? = some (x : Int)) : BL g i (k + 1) 0 b := by
  refine ⟨h.zero, fun k' x' jj y h1 h2 h3 h4 h5 h6 => h.row k' x' jj y h1 h2 h3 h4 h5 ?_⟩
  by_cases e : k' = k
  · subst e
    rw [hx] at h1
    have : x = x' := by have := Option.some.inj h1; omega
    subst this
    exact .inr ⟨rfl, (List.getElem?_eq_some_iff.1 h2).1⟩
  · left; omega
theorem BL.done (h : BL g i (rowG (grpL g) i).length 0 b) (hi : i < (grpL g).length) : b = true := by
  rcases lv_at hi with q | ⟨t, ⟨hne, x, y, hx, he, rfl, rfl⟩, q⟩
  · exact h.zero q
  · obtain ⟨k', hk'⟩ := List.getElem?_of_mem (gof_mem hx)
    obtain ⟨jj, hj⟩ := List.getElem?_of_mem he.1
    exact h.row k' x jj y hk' hj he.2 (fun q => hne q.symm) q.symm (.inl (List.getElem?_eq_some_iff.1 hk').1)
end

set_option maxRecDepth 100000 in
set_option maxHeartbeats 16000000 in
theorem waveahead_law (a : Option Addr) (l c : Nat) (xs : List Nat) (kn : Nat) (w : World) {hi : Nat} (hkn : kn ≤ 255) (hx : RowY 0 hi w a l xs) (hhi : hi ≤ w.heap.size) (hb : ∀ i, i < l → xs.getD i 0 ≤ 255) :
    Calls Try.prog 6 #[.slice a l c, .int .u8 (kn : Int)] w fun e w' => e = .returned (.bool true) ∧ Below w.heap.size w w' := by
  have HMK := Lib.hid (make_any a l c xs kn w hkn hx hhi hb)
  obtain ⟨n, hk⟩ : ∃ n, kn % 16 = n := ⟨_, rfl⟩
  rw [hk] at HMK
  have hn16 : n < 16 := by omega
  obtain ⟨i0, hi0, hz0, hz1, hz2⟩ := info_parts Try.info3
  have hmk : ∀ W : World, (Instr.makeSlice 26 (.int .i64 (n : Int)) (.int .i64 (n : Int))).run Try.prog W = .ok (.slice (some ⟨W.heap.size, 0, none⟩) n n) (W.alloc (.cells (List.replicate n (Value.int .i64 0)).toArray 3)) := fun W => by
    have h := run_make (P := Try.prog) W 26 3 i0 (.int .i64 0) Try.underlying26 hi0 hz0 .i64 .i64 (n : Int) (n : Int) (by omega) (by omega) (by rw [hz2]; omega) (by omega)
    rw [hz1] at h
    have hm : madeCells (Value.int .i64 0).cells (((n : Nat) : Int).toNat * 1) = (List.replicate n (Value.int .i64 0)).toArray := by
      apply Array.ext'
      have := toList_madeCells_one (Value.int .i64 0) n
      rw [show (Value.int .i64 0).cells = #[Value.int .i64 0] from rfl]
      simpa using this
    rw [hm] at h
    simpa using h
  obtain ⟨MB, hMB⟩ : ∃ MB, (List.replicate n (Value.int .i64 0)).toArray = MB := ⟨_, rfl⟩
  rw [hMB] at hmk
  have HMB := Lib.hid hMB
  have HMK2 := Lib.hid hmk
  clear hx hb hhi hk hi0 hz0 hz1 hz2 hMB hmk
  go_enter Try.func6, Try.ntmps6
  go_upto_region 2 with (go_at_call 9; (with_reducible refine (HMK.out).mono ?_); rintro e w0 ⟨hb0, ag, cg, g, rfl, hgi, hgp⟩; have HB0 := Lib.hid hb0; have HGI := Lib.hid hgi; have HGP := Lib.hid hgp; clear hb0 hgi hgp HMK)
  obtain ⟨LV, hLV⟩ : ∃ LV, lvL g = LV := ⟨_, rfl⟩
  obtain ⟨Lg, hLg⟩ : ∃ Lg, grpL g = Lg := ⟨_, rfl⟩
  obtain ⟨m, hm⟩ : ∃ m, Lg.length = m := ⟨_, rfl⟩
  have HLG := Lib.hid hLg
  have HM := Lib.hid hm
  have HGN : Hid (g.length = n) := HGP.out.1
  have HLN : Hid (LV.length = m) := by show _ = _; rw [← hLV, lvL_len, hLg]; exact hm
  have HLE : Hid (∀ i, i < m → el LV i = lvF g i) := by show ∀ i, _; rw [← hLV, ← hm, ← hLg]; exact fun i hi => lvL_el hi
  have hm16 : m ≤ 16 := by
    have h9 : (grpL g).length ≤ g.length := grpI_len
    have := HGN.out
    rw [hLg] at h9
    omega
  have HLV : Hid (∀ W, Below w0.heap.size w0 W → Calls Try.prog 15 #[.slice ag n cg] W fun e w' => Below W.heap.size W w' ∧ ∃ q, e = .returned (.slice (some ⟨q, 0, none⟩) m m) ∧ W.heap.size ≤ q ∧ Box w' q 3 (intsOf LV)) := fun W h => by
    have := levels_any ag n cg g W (HGI.out.below h (Nat.le_refl _)) h.size (by omega)
    rwa [hLV, hLg, hm] at this
  have HGR : Hid (Calls Try.prog 20 #[.slice ag n cg] w0 fun e w' => Below w0.heap.size w0 w' ∧ ∃ a c', e = .returned (.slice a m c') ∧ GI w'.heap.size w' a m Lg) := by
    have := rgroups_any ag n cg g w0 HGI.out (Nat.le_refl _) (by omega)
    rw [hLg, hm] at this
    exact this
  clear hLV hm hLg
  have hmk := HMK2.out
  go_wp2_with (first
    | (go_at_call 20; (with_reducible refine (HGR.out).mono ?_); rintro e w1 ⟨hb1, al, cl, rfl, hgi1⟩; have HB1 := Lib.hid hb1; have HG1 := Lib.hid hgi1; clear hb1 hgi1)
    | (go_at_call 15; (with_reducible refine (HLV.out _ HB1.out).mono ?_); rintro e w3 ⟨hb3, lq, rfl, hlq, hx3⟩; have HB3 := Lib.hid (HB1.out.trans (hb3.mono HB1.out.size)); have HX3 := Lib.hid hx3; have HG3 := Lib.hid ((HG1.out.below hb3 (Nat.le_refl _)).mono hb3.size); clear hb3 hx3 hlq))
  have hbx : Box (w3.alloc (.cells MB 3)) w3.heap.size 3 (intsOf (List.replicate n 0)) := by
    rw [← HMB.out]
    have e : List.replicate n (Value.int .i64 0) = intsOf (List.replicate n 0) := by simp [intsOf]
    rw [e]
    exact Box.new _ _ _
  have hba : Below w3.heap.size w3 (w3.alloc (.cells MB 3)) := (Below.refl _ _).alloc (Nat.le_refl _) _
  obtain ⟨w4, hw4⟩ : ∃ w4, w3.alloc (.cells MB 3) = w4 := ⟨_, rfl⟩
  rw [hw4] at hbx hba ⊢
  obtain ⟨p, hp⟩ : ∃ p, w3.heap.size = p := ⟨_, rfl⟩
  have HP := Lib.hid hp
  rw [hp] at hbx hba ⊢
  have HX4 := Lib.hid hbx
  have HB4 := Lib.hid hba
  have HC4 := Lib.hid (OI.zero Lg n)
  have HE : Hid (Eqv (mutB g) g.length) := mutB_eqv' g
  have HD : Hid (∀ i i', i < Lg.length → i' < Lg.length → ∀ v : Nat, (v : Int) ∈ rowG Lg i → (v : Int) ∈ rowG Lg i' → i = i') := by
    show ∀ i i', _
    rw [← HLG.out]
    intro i i' hi hi' v hv hv'
    have hvn : v < g.length := by obtain ⟨j, e, hj⟩ := grp_in hi hv; omega
    exact (grp_same HE.out hi hi' hv hv').2 (HE.out.rfl_ v hvn)
  have HIN : Hid (∀ i, i < m → ∀ v ∈ rowG Lg i, ∃ j : Nat, v = (j : Int) ∧ j < n) := by
    show ∀ i, _
    rw [← HM.out, ← HLG.out]
    intro i hi v hv
    obtain ⟨j, e, hj⟩ := grp_in hi hv
    exact ⟨j, e, by have := HGN.out; omega⟩
  have hp1 : w0.heap.size ≤ p := by rw [← hp]; exact HB3.out.size
  have hlqp : lq < p := by rw [← hp]; exact HX3.out.lt
  clear hw4 hbx hba hp hmk
  go_loopw [9] (fun iv wr => ∃ (i : Nat) (C : List Nat), i ≤ m ∧ iv = .int .i64 (i : Int) ∧ Hid (OI Lg n i 0 C) ∧ Hid (Box wr p 3 (intsOf C)) ∧ Hid (Below p w3 wr)) (fun iv _ => m - (intOf iv).toNat)
  case atStart => exact ⟨0, _, Nat.zero_le _, rfl, HC4, HX4, HB4⟩
  case round =>
    clear HC4 HX4 HB4
    obtain ⟨i, C, hi1, rfl, HC, HX, HB⟩ := hrel
    by_cases hlt : i < m
    · have hg3 := HG3.out
      rw [HP.out] at hg3
      obtain ⟨gb, off, ai, ci, rfl, hgb, hcr0, hrow⟩ := hg3.row hlt
      obtain ⟨LL, hLL⟩ : ∃ LL, (rowG Lg i).length = LL := ⟨_, rfl⟩
      have hLs : LL ≤ 1000000 := by rw [← hLL]; exact hg3.2.2.1 i
      rw [hLL] at hcr0 hrow
      have T2 : ∀ W, Sem.run Try.prog (Instr.indexAt 23 (.slice (some ⟨gb, off, none⟩) m cl) (.int .i64 (i : Int))) W = .ok (.pointer (some ⟨gb, off + i, none⟩)) W := fun W => by go_simp
      have HRW := Lib.hid hrow
      have HLL := Lib.hid hLL
      have HCR := Lib.hid hcr0
      clear hcr0 hLL hrow hg3
      go_wp2_with fail
      go_loopw [10] (fun jv wx => ∃ (j : Nat) (C2 : List Nat), j ≤ LL ∧ jv = .int .i64 (j : Int) ∧ Hid (OI Lg n i j C2) ∧ Hid (Box wx p 3 (intsOf C2)) ∧ Hid (Below p w3 wx)) (fun jv _ => LL - (intOf jv).toNat)
      case atStart => exact ⟨0, C, Nat.zero_le _, rfl, HC, HX, HB⟩
      case round =>
        clear HC HX HB
        obtain ⟨j, C2, hj, rfl, HC, HX, HB⟩ := hrel
        rename World => wx
        have hpl := HX.out.lt
        have hcr := (HB.out.cell (p := ⟨gb, off + i, none⟩) hgb).trans HCR.out
        have hgb1 : gb < wx.heap.size := by omega
        by_cases hltj : j < LL
        · obtain ⟨hrl, hrz⟩ := HRW.out
          obtain ⟨rb, ro, rfl, hrb1, hrb2, hrc⟩ := hrz.resolve_left (by omega)
          have hcp := (HB.out.cell (p := ⟨rb, ro + j, none⟩) hrb2).trans (hrc j hltj)
          obtain ⟨V, hV⟩ : ∃ V, (rowG Lg i).getD j 0 = V := ⟨_, rfl⟩
          rw [hV] at hcp
          have hpV : (rowG Lg i)[j]? = some V := by
            have hl := HLL.out
            rw [List.getElem?_eq_getElem (by rw [hl]; exact hltj)]
            rw [List.getD_eq_getElem?_getD, List.getElem?_eq_getElem (by rw [hl]; exact hltj)] at hV
            simpa using hV
          obtain ⟨v, rfl, hvk⟩ := HIN.out i hlt V (List.mem_of_getElem? hpV)
          have hrb : rb < wx.heap.size := by omega
          have T3 : ∀ W, Sem.run Try.prog (Instr.indexAt 26 (.slice (some ⟨rb, ro, none⟩) LL ci) (.int .i64 (j : Int))) W = .ok (.pointer (some ⟨rb, ro + j, none⟩)) W := fun W => by go_simp
          have HCN := Lib.hid (HC.out.next HD.out (by rw [HM.out]; exact hlt) hpV hvk)
          have hlen := HC.out.len
          have hcv := box_el HX.out (i := v) (by rw [hlen]; exact hvk)
          have hfv := HX.out.frozen v
          have HX2 : Hid (Box (wx.setCell ⟨p, v, none⟩ (.int .i64 (i : Int))) p 3 (intsOf (C2.set v i))) := by
            show Box _ _ _ _
            rw [← intsOf_set]
            exact Box.set HX.out v (.int .i64 (i : Int))
          have HB2 : Hid (Below p w3 (wx.setCell ⟨p, v, none⟩ (.int .i64 (i : Int)))) := HB.out.setCell (p := ⟨p, v, none⟩) (Nat.le_refl _) _
          clear hV hpV hlen hrl hrz hrc
          go_wp2_with fail
          go_roundw
          case rel => exact ⟨j + 1, _, by omega, by go_num, HCN, HX2, HB2⟩
          case measure => simp [intOf]; omega
        · have hjl : j = LL := by omega
          have hge : ¬ ((j : Int) < (LL : Int)) := by omega
          have HC2 : Hid (OI Lg n (i + 1) 0 C2) := by
            have := HC.out
            rw [hjl, ← HLL.out] at this
            exact this.turn
          clear hjl
          go_wp2_with fail
          go_roundw
          case rel => exact ⟨i + 1, C2, by omega, by go_num, HC2, HX, HB⟩
          case measure => simp [intOf]; omega
    · have him : i = m := by omega
      have hge : ¬ ((i : Int) < (m : Int)) := by omega
      have HXG : Hid (Box wr p 3 (intsOf (gofL g))) := by
        have h9 := HC.out
        rw [him] at h9
        have e : C = gofL g := OI.done (by rw [HGN.out, HLG.out, HM.out]; exact h9)
        rw [← e]; exact HX.out
      have HX5 : Hid (Box wr lq 3 (intsOf LV)) := HX3.out.below (by rw [HP.out]; exact HB.out)
      have HWB : Hid (Below w0.heap.size w0 wr) := HB3.out.trans (HB.out.mono hp1)
      have HGW : Hid (GI w0.heap.size wr ag n g) := HGI.out.below HWB.out (Nat.le_refl _)
      have HG6 : Hid (GI p wr al m Lg) := by
        have h1 := HG3.out
        rw [HP.out] at h1
        exact h1.below HB.out (Nat.le_refl _)
      have hpw := HXG.out.lt
      have HEY : Hid (∀ i x : Nat, i < m → (x : Int) ∈ rowG Lg i → x < n ∧ gof g x = i) := fun i x hi hx => by
        rw [← HLG.out] at hx
        obtain ⟨x', e, h1, h2⟩ := grp_at (by rw [HLG.out, HM.out]; exact hi) hx
        have : x = x' := by omega
        subst this
        exact ⟨by rw [← HGN.out]; exact h1, h2⟩
      clear HX HC him HB HX3 HG3
      go_wp2_with fail
      go_loopw [11] (fun iv wx => ∃ i q : Nat, i ≤ m ∧ iv = .int .i64 (i : Int) ∧ wr.drewN q = wx) (fun iv _ => m - (intOf iv).toNat)
      case atStart => exact ⟨0, 0, Nat.zero_le _, rfl, rfl⟩
      case round =>
        obtain ⟨i, q, hi1, rfl, hwx⟩ := hrel
        subst hwx
        by_cases hlti : i < m
        · obtain ⟨gb, off, ai, ci, hal, hgb, hcr, hrow⟩ := HG6.out.row hlti
          obtain ⟨LL, hLL⟩ : ∃ LL, (rowG Lg i).length = LL := ⟨_, rfl⟩
          have hLs : LL ≤ 1000000 := by rw [← hLL]; exact HG6.out.2.2.1 i
          rw [hLL] at hcr hrow
          subst hal
          have hgb1 : gb < wr.heap.size := by omega
          have hli := HLE.out i hlti
          have cl1 := box_el HX5.out (i := i) (by rw [HLN.out]; exact hlti)
          rw [hli] at cl1
          obtain ⟨li, hlie⟩ : ∃ li, lvF g i = li := ⟨_, rfl⟩
          rw [hlie] at cl1
          have hlim : li ≤ 16 := by
            have := lv_le g i
            rw [HLG.out, HM.out] at this
            omega
          have hlq1 : lq < wr.heap.size := HX5.out.lt
          have HLIE := Lib.hid hlie
          have HRW := Lib.hid hrow
          have HLL := Lib.hid hLL
          obtain ⟨b0, hb0⟩ : ∃ b0, ((li : Int) == 0) = b0 := ⟨_, rfl⟩
          have HBL0 : Hid (BL g i 0 0 b0) := BL.start fun h => by
            rw [hlie] at h
            rw [← hb0, h]; rfl
          have T2 : ∀ W, Sem.run Try.prog (Instr.indexAt 23 (.slice (some ⟨gb, off, none⟩) m cl) (.int .i64 (i : Int))) W = .ok (.pointer (some ⟨gb, off + i, none⟩)) W := fun W => by go_simp
          have T1 : ∀ W, Sem.run Try.prog (Instr.indexAt 26 (.slice (some ⟨lq, 0, none⟩) m m) (.int .i64 (i : Int))) W = .ok (.pointer (some ⟨lq, i, none⟩)) W := fun W => by go_simp
          clear hrow hLL hli hlie
          go_wp2_with fail
          clear hb0
          go_loopw [12, 13] (fun bv kv wy => ∃ (b : Bool) (k q : Nat), k ≤ LL ∧ kv = .int .i64 (k : Int) ∧ bv = .bool b ∧ Hid (BL g i k 0 b) ∧ wr.drewN q = wy) (fun _ kv _ => LL - (intOf kv).toNat)
          case atStart => exact ⟨b0, 0, q, Nat.zero_le _, rfl, rfl, HBL0, rfl⟩
          case round =>
            clear HBL0
            obtain ⟨b, k, q, hk, rfl, rfl, HBL, hwy⟩ := hrel
            subst hwy
            by_cases hltk : k < LL
            · obtain ⟨hrl, hrz⟩ := HRW.out
              obtain ⟨rb, ro, hai, _, hrb2, hrc⟩ := hrz.resolve_left (by omega)
              subst hai
              have hcp := hrc k hltk
              obtain ⟨V, hV⟩ : ∃ V, (rowG Lg i).getD k 0 = V := ⟨_, rfl⟩
              rw [hV] at hcp
              have hpV : (rowG Lg i)[k]? = some V := by
                have hl := HLL.out
                rw [List.getElem?_eq_getElem (by rw [hl]; exact hltk)]
                rw [List.getD_eq_getElem?_getD, List.getElem?_eq_getElem (by rw [hl]; exact hltk)] at hV
                simpa using hV
              obtain ⟨x, rfl, hxn⟩ := HIN.out i hlti V (List.mem_of_getElem? hpV)
              have HXI := Lib.hid (HEY.out i x hlti (List.mem_of_getElem? hpV)).2
              have HPX := Lib.hid hpV
              have hrb : rb < wr.heap.size := by omega
              have T3 : ∀ W, Sem.run Try.prog (Instr.indexAt 26 (.slice (some ⟨rb, ro, none⟩) LL ci) (.int .i64 (k : Int))) W = .ok (.pointer (some ⟨rb, ro + k, none⟩)) W := fun W => by go_simp
              obtain ⟨xb, xo, xa, xc, hag, hxb, hxr, hxrow⟩ := HGW.out.row hxn
              obtain ⟨LX, hLX⟩ : ∃ LX, (rowG g x).length = LX := ⟨_, rfl⟩
              have hLXs : LX ≤ 40 := by rw [← hLX]; exact (HGP.out.2 x).1
              rw [hLX] at hxr hxrow
              subst hag
              have hxb1 : xb < wr.heap.size := by omega
              have T4 : ∀ W, Sem.run Try.prog (Instr.indexAt 23 (.slice (some ⟨xb, xo, none⟩) n cg) (.int .i64 (x : Int))) W = .ok (.pointer (some ⟨xb, xo + x, none⟩)) W := fun W => by go_simp
              have HXR := Lib.hid hxrow
              have HLX := Lib.hid hLX
              clear hV hpV hrl hrz hrc hxrow hLX
              go_wp2_with fail
              clear hxr hxb1 hcp hrb
              go_loopw [12, 15] (fun bv jv wd => ∃ (b : Bool) (j q : Nat), j ≤ LX ∧ jv = .int .i64 (j : Int) ∧ bv = .bool b ∧ Hid (BL g i k j b) ∧ wr.drewN q = wd) (fun _ jv _ => LX - (intOf jv).toNat)
              case atStart => exact ⟨b, 0, q, Nat.zero_le _, rfl, rfl, HBL, rfl⟩
              case round =>
                clear HBL
                obtain ⟨b, j, q, hj, rfl, rfl, HBL, hwd⟩ := hrel
                subst hwd
                by_cases hltj : j < LX
                · obtain ⟨hrl, hrz⟩ := HXR.out
                  obtain ⟨yb, yo, hxa, _, hyb, hyc⟩ := hrz.resolve_left (by omega)
                  subst hxa
                  obtain ⟨Y, hY⟩ : ∃ Y, (rowG g x).getD j 0 = Y := ⟨_, rfl⟩
                  have hcy := hyc j hltj
                  rw [hY] at hcy
                  have hpY : (rowG g x)[j]? = some Y := by
                    rw [List.getElem?_eq_getElem (by rw [hrl]; exact hltj)]
                    rw [List.getD_eq_getElem?_getD, List.getElem?_eq_getElem (by rw [hrl]; exact hltj)] at hY
                    simpa using hY
                  have hYb := (HGP.out.2 x).2 Y (List.mem_of_getElem? hpY)
                  obtain ⟨y, rfl⟩ : ∃ y : Nat, Y = y := ⟨Y.toNat, by omega⟩
                  have hyn : y < n := by omega
                  have hyg : y < g.length := by rw [HGN.out]; exact hyn
                  have hyb1 : yb < wr.heap.size := by omega
                  have T5 : ∀ W, Sem.run Try.prog (Instr.indexAt 26 (.slice (some ⟨yb, yo, none⟩) LX xc) (.int .i64 (j : Int))) W = .ok (.pointer (some ⟨yb, yo + j, none⟩)) W := fun W => by go_simp
                  have cy := box_el HXG.out (i := y) (by rw [gofL_len]; exact hyg)
                  rw [gofL_el hyg] at cy
                  have hym : gof g y < m := by have := gof_lt hyg; rw [HLG.out, HM.out] at this; exact this
                  have HST : Hid (∀ b' : Bool, (b = true → b' = true) → (gof g y ≠ i → lvF g (gof g y) + 1 = lvF g i → b' = true) → BL g i k (j + 1) b') := fun b' h1 h2 => HBL.out.step (by rw [HLG.out]; exact HPX.out) hpY h1 h2
                  have HLTE : Hid (gof g y ≠ i → lvF g (gof g y) + 1 ≤ li) := fun h => by
                    have hxg : x < g.length := by rw [HGN.out]; exact hxn
                    have := lv_lt (g := g) (i := i) (j := gof g y) ⟨fun e => h e.symm, x, y, hxg, ⟨List.mem_of_getElem? hpY, hyg⟩, HXI.out, rfl⟩
                    rw [HLIE.out] at this; exact this
                  have T6 : ∀ W, Sem.run Try.prog (Instr.indexAt 26 (.slice (some ⟨p, 0, none⟩) n n) (.int .i64 (y : Int))) W = .ok (.pointer (some ⟨p, y, none⟩)) W := fun W => by go_simp
                  have cl2 := box_el HX5.out (i := gof g y) (by rw [HLN.out]; exact hym)
                  rw [HLE.out _ hym] at cl2
                  obtain ⟨t, ht⟩ : ∃ t, gof g y = t := ⟨_, rfl⟩
                  rw [ht] at cy hym HST HLTE cl2
                  obtain ⟨lt, hlt2⟩ : ∃ lt, lvF g t = lt := ⟨_, rfl⟩
                  rw [hlt2] at HST HLTE cl2
                  clear hY hpY hrl hrz hyc hYb ht hlt2
                  by_cases hti : t = i
                  · subst hti
                    have HB2 : Hid (BL g t k (j + 1) b) := HST.out b id fun h => absurd rfl h
                    go_wp2_with fail
                    go_roundw
                    case rel => exact ⟨b, j + 1, q, by omega, by go_num, by first | rfl | trivial, HB2, by first | rfl | trivial⟩
                    case measure => simp [intOf]; omega
                  · have e3 : ((t : Int) == (i : Int)) = false := by simp; omega
                    have hle := HLTE.out hti
                    have e4 : decide ((li : Int) ≤ (lt : Int)) = false := decide_eq_false (by omega)
                    have e4' : decide (li ≤ lt) = false := decide_eq_false (by omega)
                    have T7 : ∀ W, Sem.run Try.prog (Instr.indexAt 26 (.slice (some ⟨lq, 0, none⟩) m m) (.int .i64 (t : Int))) W = .ok (.pointer (some ⟨lq, t, none⟩)) W := fun W => by go_simp
                    obtain ⟨l1, hl1⟩ : ∃ l1, li - 1 = l1 := ⟨_, rfl⟩
                    have hwl : IntKind.i64.wrap ((li : Int) - 1) = (l1 : Int) := by rw [show (li : Int) - 1 = (l1 : Int) by omega]; exact IntWalk.i64_in _ (by omega)
                    cases b with
                    | true =>
                      have HB2 : Hid (BL g i k (j + 1) true) := HST.out true id fun _ _ => rfl
                      go_wp2_with fail
                      go_quiet (fail)
                      go_wp2_with fail
                      go_quiet (fail)
                      go_wp2_with fail
                      go_roundw
                      case rel => exact ⟨true, j + 1, _, by omega, by go_num, by first | rfl | trivial, HB2, by first | rfl | trivial⟩
                      case measure => simp [intOf]; omega
                    | false =>
                      by_cases heq : lt = l1
                      · have HB2 : Hid (BL g i k (j + 1) true) := HST.out true (fun _ => rfl) fun _ _ => rfl
                        have e5 : ((lt : Int) == (l1 : Int)) = true := by simp; omega
                        subst heq
                        go_wp2_with fail
                        go_quiet (fail)
                        go_wp2_with fail
                        go_quiet (fail)
                        go_wp2_with fail
                        go_roundw
                        case rel => exact ⟨true, j + 1, _, by omega, by go_num, by first | rfl | trivial, HB2, by first | rfl | trivial⟩
                        case measure => simp [intOf]; omega
                      · have HB2 : Hid (BL g i k (j + 1) false) := HST.out false id fun _ h => by have := HLIE.out; omega
                        have e5 : ((lt : Int) == (l1 : Int)) = false := by simp; omega
                        go_wp2_with fail
                        go_quiet (fail)
                        go_wp2_with fail
                        go_quiet (fail)
                        go_wp2_with fail
                        go_roundw
                        case rel => exact ⟨false, j + 1, _, by omega, by go_num, by first | rfl | trivial, HB2, by first | rfl | trivial⟩
                        case measure => simp [intOf]; omega
                · have hjl : j = LX := by omega
                  have hge : ¬ ((j : Int) < (LX : Int)) := by omega
                  have HB2 : Hid (BL g i (k + 1) 0 b) := by
                    have := HBL.out
                    rw [hjl, ← HLX.out] at this
                    exact this.turn (by rw [HLG.out]; exact HPX.out)
                  clear hjl
                  go_wp2_with fail
                  go_roundw
                  case rel => exact ⟨b, k + 1, q, by omega, by go_num, by first | rfl | trivial, HB2, by first | rfl | trivial⟩
                  case measure => simp [intOf]; omega
            · have hkl : k = LL := by omega
              have hge : ¬ ((k : Int) < (LL : Int)) := by omega
              have hbt : b = true := by
                have := HBL.out
                rw [hkl, ← HLL.out, ← HLG.out] at this
                exact this.done (by rw [HLG.out, HM.out]; exact hlti)
              subst hbt
              have e6 : decide ((li : Int) < 0) = false := decide_eq_false (by omega)
              clear hkl
              go_wp2_with fail
              go_roundw
              case rel => exact ⟨i + 1, q, by omega, by go_num, by first | rfl | trivial⟩
              case measure => simp [intOf]; omega
        · have hge : ¬ ((i : Int) < (m : Int)) := by omega
          go_wp2_with (go_at_call 19; (with_reducible refine (awake6_any _).mono ?_); rintro e w9 ⟨rfl, hb9⟩; have HB9 := Lib.hid hb9; clear hb9)
          go_ret
          have h9 : Below w0.heap.size w0 (wr.drewN q) := below_drewN HWB.out q
          exact ⟨rfl, HB0.out.trans ((h9.trans (HB9.out.mono h9.size)).mono HB0.out.size)⟩

end Go.Proofs.Ytdbjmonboecfgaa
