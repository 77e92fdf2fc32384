/- The law SccReach. -/
import Derived.Test.YtalhpdgpnfedkaaGmk
import Derived.Test.YtalhpdgpnfedkaaGaw
import Derived.Test.YtalhpdgpnfedkaaGgf
import Derived.BigQuiet
import Derived.Test.YtalhpdgpnfedkaaGxo
namespace Go.Proofs.Ytalhpdgpnfedkaa
open Go.RowKit Go.Maps
set_option linter.unusedVariables false
set_option linter.unusedSimpArgs false

theorem byte_mod {a k x : Nat} (h : a % k = x) : (a : Int) % (k : Int) = (x : Int) ∧ (a : Int).tmod (k : Int) = (x : Int) := by
  have e : (a : Int) % (k : Int) = (x : Int) := by rw [← h]; exact (Int.natCast_emod a k).symm
  exact ⟨e, by rw [Int.tmod_eq_emod_of_nonneg (by omega)]; exact e⟩
theorem wrap_small {x : Nat} (h : x ≤ 100000) : IntKind.i64.wrap (x : Int) = (x : Int) := IntWalk.i64_in _ (by omega)

set_option maxRecDepth 100000 in
set_option maxHeartbeats 16000000 in
theorem reach_law (a : Option Addr) (l c : Nat) (xs : List Nat) (kn ka kb kc : Nat) (w : World) {hi : Nat} (hkn : kn ≤ 255) (hka : ka ≤ 255) (hkb : kb ≤ 255) (hkc : kc ≤ 255) (hx : RowY 0 hi w a l xs) (hhi : hi ≤ w.heap.size) (hb : ∀ i, i < l → xs.getD i 0 ≤ 255) :
    Calls Try.prog 5 #[.slice a l c, .int .u8 (kn : Int), .int .u8 (ka : Int), .int .u8 (kb : Int), .int .u8 (kc : Int)] w fun e w' => e = .returned (.bool true) ∧ Below w.heap.size w w' := by
  have HMK := Lib.hid (make_any a l c xs kn w hkn hx hhi hb)
  obtain ⟨k, hk⟩ : ∃ k, kn % 16 = k := ⟨_, rfl⟩
  rw [hk] at HMK
  have hk16 : k < 16 := by omega
  clear hx hb hhi hk
  by_cases h0 : k = 0
  · go_enter Try.func5, Try.ntmps5
    go_wp2_with (first
      | (go_at_call 15; (with_reducible refine (HMK.out).mono ?_); rintro e w1 ⟨hb1, ag, cg, g, rfl, hgi, hgp⟩; have HB1 := Lib.hid hb1; clear hb1 hgi hgp HMK)
      | (go_at_call 14; (with_reducible refine (awake_any _).mono ?_); rintro e w2 ⟨rfl, hb2⟩; have HB2 := Lib.hid (HB1.out.trans (hb2.mono HB1.out.size)); clear hb2))
    go_ret
    exact ⟨rfl, HB2.out⟩
  · obtain ⟨x, hx⟩ : ∃ x, ka % k = x := ⟨_, rfl⟩
    obtain ⟨y, hy⟩ : ∃ y, kb % k = y := ⟨_, rfl⟩
    obtain ⟨z, hz⟩ : ∃ z, kc % k = z := ⟨_, rfl⟩
    have hxk : x < k := by rw [← hx]; exact Nat.mod_lt _ (by omega)
    have hyk : y < k := by rw [← hy]; exact Nat.mod_lt _ (by omega)
    have hzk : z < k := by rw [← hz]; exact Nat.mod_lt _ (by omega)
    obtain ⟨ex1, ex2⟩ := byte_mod hx
    obtain ⟨ey1, ey2⟩ := byte_mod hy
    obtain ⟨ez1, ez2⟩ := byte_mod hz
    have wx := wrap_small (x := x) (by omega)
    have wy := wrap_small (x := y) (by omega)
    have wz := wrap_small (x := z) (by omega)
    have wa := wrap_small (x := ka) (by omega)
    have wb := wrap_small (x := kb) (by omega)
    have wc := wrap_small (x := kc) (by omega)
    have ek0 : ((k : Int) == 0) = false := by simp; omega
    clear hx hy hz
    go_enter Try.func5, Try.ntmps5
    go_wp2_with (go_at_call 15; (with_reducible refine (HMK.out).mono ?_); rintro e w1 ⟨hb1, ag, cg, g, rfl, hgi, hgp⟩; have HB1 := Lib.hid hb1; have HGI := Lib.hid hgi; have HGP := Lib.hid hgp; clear hb1 hgi hgp HMK)
    go_quiet (fail)
    obtain ⟨w2, hw2⟩ : ∃ w2, w1.drewN nq = w2 := ⟨_, rfl⟩
    have hb2 := below_drewN (Below.refl w1.heap.size w1) nq
    rw [hw2] at hb2 ⊢
    have HB2 := Lib.hid (HB1.out.trans (hb2.mono HB1.out.size))
    have HG2 := Lib.hid (HGI.out.below hb2 (Nat.le_refl _))
    have hs2 := hb2.size
    have HH : Hid (w1.heap.size ≤ w2.heap.size) := hs2
    clear hw2 hb2 HGI HB1 hs2 ex1 ex2 ey1 ey2 ez1 ez2 wa wb wc
    have HOF := Lib.hid (of_any ag k cg g w2 HG2.out HH.out (by omega))
    have HRE : Hid (∀ (W : World) (p q : Int), Below w2.heap.size w2 W → Calls Try.prog 12 #[.slice ag k cg, .int .i64 p, .int .i64 q] W fun e w' => e = .returned (.bool (rchB g p q)) ∧ Below W.heap.size W w') := fun W p q h => reach_any ag k cg g p q W (HG2.out.below h HH.out) (Nat.le_trans HH.out h.size) (by omega)
    obtain ⟨i0, hi0, hz0, hz1, hz2⟩ := info_parts Try.info3
    have hmk : ∀ W : World, (Instr.makeSlice 30 (.int .i64 (k : Int)) (.int .i64 (k : Int))).run Try.prog W = .ok (.slice (some ⟨W.heap.size, 0, none⟩) k k) (W.alloc (.cells (List.replicate k (Value.int .i64 0)).toArray 3)) := fun W => by
      have h := run_make (P := Try.prog) W 30 3 i0 (.int .i64 0) Try.underlying30 hi0 hz0 .i64 .i64 (k : Int) (k : Int) (by omega) (by omega) (by rw [hz2]; omega) (by omega)
      rw [hz1] at h
      have hm : madeCells (Value.int .i64 0).cells (((k : Nat) : Int).toNat * 1) = (List.replicate k (Value.int .i64 0)).toArray := by
        apply Array.ext'
        have := toList_madeCells_one (Value.int .i64 0) k
        rw [show (Value.int .i64 0).cells = #[Value.int .i64 0] from rfl]
        simpa using this
      rw [hm] at h
      simpa using h
    obtain ⟨MB, hMB⟩ : ∃ MB, (List.replicate k (Value.int .i64 0)).toArray = MB := ⟨_, rfl⟩
    rw [hMB] at hmk
    have HMB := Lib.hid hMB
    clear hi0 hz0 hz1 hz2 hMB
    obtain ⟨Lg, hLg⟩ : ∃ Lg, grpL g = Lg := ⟨_, rfl⟩
    have HLG := Lib.hid hLg
    have hLg0 := Lib.hid hLg
    rw [hLg] at HOF
    obtain ⟨m, hm⟩ : ∃ m, Lg.length = m := ⟨_, rfl⟩
    have HM := Lib.hid hm
    have hm16 : m ≤ 16 := by
      have hgl := HGP.out.1
      have h9 : (grpL g).length ≤ g.length := grpI_len
      rw [hLg0.out] at h9
      omega
    rw [hm] at HOF
    clear hLg hm
    go_wp2_with (go_at_call 10; (with_reducible refine (HOF.out).mono ?_); rintro e w3 ⟨hb3, al, cl, rfl, hgi3⟩; have HB3 := Lib.hid hb3; have HG3 := Lib.hid hgi3; clear hb3 hgi3 HOF)
    have hbx : Box (w3.alloc (.cells MB 3)) w3.heap.size 3 (intsOf (List.replicate k 0)) := by
      rw [← HMB.out]
      have e : List.replicate k (Value.int .i64 0) = intsOf (List.replicate k 0) := by simp [intsOf]
      rw [e]
      exact Box.new _ _ _
    have hba : Below w3.heap.size w3 (w3.alloc (.cells MB 3)) := (Below.refl _ _).alloc (Nat.le_refl _) _
    obtain ⟨w4, hw4⟩ : ∃ w4, w3.alloc (.cells MB 3) = w4 := ⟨_, rfl⟩
    rw [hw4] at hbx hba ⊢
    obtain ⟨p, hp⟩ : ∃ p, w3.heap.size = p := ⟨_, rfl⟩
    have HP := Lib.hid hp
    rw [hp] at hbx hba ⊢
    have HX4 := Lib.hid hbx
    have HB4 := Lib.hid hba
    have HO4 := Lib.hid (OI.zero Lg k)
    have HD : Hid (∀ i i', i < Lg.length → i' < Lg.length → ∀ v : Nat, (v : Int) ∈ rowG Lg i → (v : Int) ∈ rowG Lg i' → i = i') := by
      show ∀ i i', _
      rw [← HLG.out]
      intro i i' hi hi' v hv hv'
      have hvn : v < g.length := by obtain ⟨j, e, hj⟩ := grp_in hi hv; omega
      exact (grp_same (mutB_eqv' g) hi hi' hv hv').2 ((mutB_eqv' g).rfl_ v hvn)
    have HIN : Hid (∀ i, i < m → ∀ v ∈ rowG Lg i, ∃ j : Nat, v = (j : Int) ∧ j < k) := by
      show ∀ i, _
      rw [← HM.out, ← HLG.out]
      intro i hi v hv
      obtain ⟨j, e, hj⟩ := grp_in hi hv
      exact ⟨j, e, by have := HGP.out.1; omega⟩
    have hp2 : w2.heap.size ≤ p := by rw [← hp]; exact HB3.out.size
    clear hw4 hbx hba hp hmk
    go_loopw [17] (fun iv wr => ∃ (i : Nat) (O : List Nat), i ≤ m ∧ iv = .int .i64 (i : Int) ∧ Hid (OI Lg k i 0 O) ∧ Hid (Box wr p 3 (intsOf O)) ∧ Hid (Below p w3 wr)) (fun iv _ => m - (intOf iv).toNat)
    case atStart => exact ⟨0, _, Nat.zero_le _, rfl, HO4, HX4, HB4⟩
    case round =>
      clear HO4 HX4 HB4
      obtain ⟨i, O, hi1, rfl, HO, HX, HB⟩ := hrel
      by_cases hlt : i < m
      · have hg3 := HG3.out
        rw [HP.out] at hg3
        obtain ⟨gb, off, ai, ci, rfl, hgb, hcr, hrow⟩ := hg3.row hlt
        obtain ⟨LL, hLL⟩ : ∃ LL, (rowG Lg i).length = LL := ⟨_, rfl⟩
        have hLs : LL ≤ 1000000 := by rw [← hLL]; exact hg3.2.2.1 i
        rw [hLL] at hcr hrow
        have T2 : ∀ W, Sem.run Try.prog (Instr.indexAt 22 (.slice (some ⟨gb, off, none⟩) m cl) (.int .i64 (i : Int))) W = .ok (.pointer (some ⟨gb, off + i, none⟩)) W := fun W => by go_simp
        have HROW := Lib.hid hrow
        have HCR := Lib.hid hcr
        have HLL := Lib.hid hLL
        clear hrow hcr hLL hg3
        go_wp2_with fail
        go_loopw [18] (fun jv wx => ∃ (j : Nat) (O2 : List Nat), j ≤ LL ∧ jv = .int .i64 (j : Int) ∧ Hid (OI Lg k i j O2) ∧ Hid (Box wx p 3 (intsOf O2)) ∧ Hid (Below p w3 wx)) (fun jv _ => LL - (intOf jv).toNat)
        case atStart => exact ⟨0, O, Nat.zero_le _, rfl, HO, HX, HB⟩
        case round =>
          clear HO HX HB
          obtain ⟨j, O2, hj, rfl, HO, HX, HB⟩ := hrel
          rename World => wx
          have hpl := HX.out.lt
          have hcr := (HB.out.cell (p := ⟨gb, off + i, none⟩) hgb).trans HCR.out
          have hgb1 : gb < wx.heap.size := by omega
          by_cases hltj : j < LL
          · obtain ⟨hrl, hrz⟩ := HROW.out.below HB.out (Nat.le_refl _)
            obtain ⟨rb, ro, rfl, hrb1, hrb2, hrc⟩ := hrz.resolve_left (by omega)
            have hcp := hrc j hltj
            obtain ⟨V, hV⟩ : ∃ V, (rowG Lg i).getD j 0 = V := ⟨_, rfl⟩
            rw [hV] at hcp
            have hpV : (rowG Lg i)[j]? = some V := by
              rw [List.getElem?_eq_getElem (by rw [hrl]; exact hltj)]
              rw [List.getD_eq_getElem?_getD, List.getElem?_eq_getElem (by rw [hrl]; exact hltj)] at hV
              simpa using hV
            obtain ⟨v, rfl, hvk⟩ := HIN.out i hlt V (List.mem_of_getElem? hpV)
            have hrb : rb < wx.heap.size := by omega
            have T3 : ∀ W, Sem.run Try.prog (Instr.indexAt 30 (.slice (some ⟨rb, ro, none⟩) LL ci) (.int .i64 (j : Int))) W = .ok (.pointer (some ⟨rb, ro + j, none⟩)) W := fun W => by go_simp
            have HO2 := Lib.hid (HO.out.next HD.out (by rw [HM.out]; exact hlt) hpV hvk)
            have hlen := HO.out.len
            have hcv := box_el HX.out (i := v) (by rw [hlen]; exact hvk)
            have hfv := HX.out.frozen v
            have HX2 : Hid (Box (wx.setCell ⟨p, v, none⟩ (.int .i64 (i : Int))) p 3 (intsOf (O2.set v i))) := by show Box _ _ _ _; rw [← intsOf_set]; exact HX.out.set v _
            have HB2 : Hid (Below p w3 (wx.setCell ⟨p, v, none⟩ (.int .i64 (i : Int)))) := HB.out.setCell (p := ⟨p, v, none⟩) (Nat.le_refl _) _
            obtain ⟨ov, hov⟩ : ∃ ov, el O2 v = ov := ⟨_, rfl⟩
            rw [hov] at hcv
            have hrbp : rb ≠ p := by omega
            have hgbp : gb ≠ p := by omega
            clear hrc hrl hrz hV hpV hlen hov
            go_wp2_with fail
            go_roundw
            case rel => exact ⟨j + 1, _, by omega, by go_num, HO2, HX2, HB2⟩
            case measure => simp [intOf]; omega
          · have hjl : j = LL := by omega
            have hge : ¬ ((j : Int) < (LL : Int)) := by omega
            have HO2 : Hid (OI Lg k (i + 1) 0 O2) := by
              have := HO.out
              rw [hjl, ← HLL.out] at this
              exact this.turn
            clear hjl
            go_wp2_with fail
            go_roundw
            case rel => exact ⟨i + 1, O2, by omega, by go_num, HO2, HX, HB⟩
            case measure => simp [intOf]; omega
      · have him : i = m := by omega
        have hge : ¬ ((i : Int) < (m : Int)) := by omega
        have HO2 : Hid (∀ i', i' < m → ∀ v : Nat, (v : Int) ∈ rowG Lg i' → el O v = i') := by
          have := HO.out.old
          rw [him] at this
          exact this
        have hOl := HO.out.len
        have hbw : Below w2.heap.size w2 wr := HB3.out.trans (HB.out.mono hp2)
        have HBW := Lib.hid hbw
        obtain ⟨bxy, hxy⟩ : ∃ b, rchB g (x : Int) (y : Int) = b := ⟨_, rfl⟩
        obtain ⟨byx, hyx⟩ : ∃ b, rchB g (y : Int) (x : Int) = b := ⟨_, rfl⟩
        have HXY : Hid (∀ W, Below w2.heap.size w2 W → Calls Try.prog 12 #[.slice ag k cg, .int .i64 (x : Int), .int .i64 (y : Int)] W fun e w' => e = .returned (.bool bxy) ∧ Below W.heap.size W w') := fun W h => by have := HRE.out W x y h; rwa [hxy] at this
        have HYX : Hid (∀ W, Below w2.heap.size w2 W → Calls Try.prog 12 #[.slice ag k cg, .int .i64 (y : Int), .int .i64 (x : Int)] W fun e w' => e = .returned (.bool byx) ∧ Below W.heap.size W w') := fun W h => by have := HRE.out W y x h; rwa [hyx] at this
        have HBB := Lib.hid (And.intro hxy hyx)
        clear him hbw hxy hyx
        go_wp2_with (first
          | (go_at_call 12; (with_reducible refine (HXY.out _ HBW.out).mono ?_); rintro e w5 ⟨rfl, hb5⟩; have HB5 := Lib.hid (HBW.out.trans (hb5.mono HBW.out.size)); have HC5 := Lib.hid hb5; clear hb5)
          | (go_at_call 12; (with_reducible refine (HYX.out _ HB5.out).mono ?_); rintro e w6 ⟨rfl, hb6⟩; have HB6 := Lib.hid (HB5.out.trans (hb6.mono HB5.out.size)); have HC6 := Lib.hid (HC5.out.trans (hb6.mono HC5.out.size)); clear hb6))
        obtain ⟨bxy', hbyx'⟩ := HBB.out
        have HG6 := HG2.out
        obtain ⟨gb, off, ai, ci, rfl, hgb, hcr, hrow⟩ := HG6.row hxk
        obtain ⟨LX, hLX⟩ : ∃ LX, (rowG g x).length = LX := ⟨_, rfl⟩
        have hLs : LX ≤ 1000000 := by rw [← hLX]; exact HG6.2.2.1 x
        rw [hLX] at hcr hrow
        have hgbw : gb < w2.heap.size := Nat.lt_of_lt_of_le hgb HH.out
        have HROW := Lib.hid hrow
        have HCR := Lib.hid hcr
        have HLX := Lib.hid hLX
        have T2 : ∀ W, Sem.run Try.prog (Instr.indexAt 22 (.slice (some ⟨gb, off, none⟩) k cg) (.int .i64 (x : Int))) W = .ok (.pointer (some ⟨gb, off + x, none⟩)) W := fun W => by go_simp
        have hpl := HX.out.lt
        have hXP := HX.out.below HC6.out
        have HX6 := Lib.hid hXP
        have HOL := Lib.hid hOl
        have HBB2 : Hid (rchB g (x : Int) (y : Int) = bxy ∧ rchB g (y : Int) (x : Int) = byx) := ⟨bxy', hbyx'⟩
        clear bxy' hbyx' HG6 hrow hcr hLX hXP hOl HXY HYX HBB HO HX HB HB5 HC5
        go_wp2_with fail
        go_loopw [21] (fun iv wx => ∃ i : Nat, i ≤ LX ∧ iv = .int .i64 (i : Int) ∧ Hid (Below w6.heap.size w6 wx)) (fun iv _ => LX - (intOf iv).toNat)
        case atStart => exact ⟨0, Nat.zero_le _, rfl, Lib.hid (Below.refl _ _)⟩
        case round =>
          obtain ⟨i', hi2, rfl, HB⟩ := hrel
          rename World => wx
          have HBx : Hid (Below w2.heap.size w2 wx) := HB6.out.trans (HB.out.mono HB6.out.size)
          have hcr := (HBx.out.cell (p := ⟨gb, off + x, none⟩) hgbw).trans HCR.out
          have hszx := HBx.out.size
          have hgb1 : gb < wx.heap.size := by omega
          by_cases hlti : i' < LX
          · obtain ⟨hrl, hrz⟩ := HROW.out.below HBx.out HH.out
            obtain ⟨rb, ro, rfl, hrb1, hrb2, hrc⟩ := hrz.resolve_left (by omega)
            have hcp := hrc i' hlti
            obtain ⟨V, hV⟩ : ∃ V, (rowG g x).getD i' 0 = V := ⟨_, rfl⟩
            rw [hV] at hcp
            have hpV : (rowG g x)[i']? = some V := by
              rw [List.getElem?_eq_getElem (by rw [hrl]; exact hlti)]
              rw [List.getD_eq_getElem?_getD, List.getElem?_eq_getElem (by rw [hrl]; exact hlti)] at hV
              simpa using hV
            have hVm := List.mem_of_getElem? hpV
            have hVk := (HGP.out.2 x).2 V hVm
            obtain ⟨v, rfl⟩ : ∃ v : Nat, V = v := ⟨V.toNat, by omega⟩
            have hrv : rchB g (x : Int) (v : Int) = true := by
              have hgl := HGP.out.1
              exact (rchB_nat (by omega) (by omega)).2 (Rch.one ⟨hVm, by omega⟩)
            have hrb : rb < wx.heap.size := by have := HH.out; omega
            have T3 : ∀ W, Sem.run Try.prog (Instr.indexAt 30 (.slice (some ⟨rb, ro, none⟩) LX ci) (.int .i64 (i' : Int))) W = .ok (.pointer (some ⟨rb, ro + i', none⟩)) W := fun W => by go_simp
            have HRV := Lib.hid (HRE.out wx x v HBx.out)
            rw [hrv] at HRV
            clear hrc hrl hrz hV hpV hVm hVk hrv
            go_wp2_with (go_at_call 12; (with_reducible refine (HRV.out).mono ?_); rintro e w7 ⟨rfl, hb7⟩; have HB7 := Lib.hid (HB.out.trans (hb7.mono HB.out.size)); clear hb7)
            go_roundw
            case rel => exact ⟨i' + 1, by omega, by go_num, HB7⟩
            case measure => simp [intOf]; omega
          · have hge : ¬ ((i' : Int) < (LX : Int)) := by omega
            have hx7 := HX6.out.below HB.out
            have hO := HOL.out
            have cx := box_el hx7 (i := x) (by rw [hO]; exact hxk)
            have cy := box_el hx7 (i := y) (by rw [hO]; exact hyk)
            have hpl7 := hx7.lt
            obtain ⟨ox, hox⟩ : ∃ v, el O x = v := ⟨_, rfl⟩
            obtain ⟨oy, hoy⟩ : ∃ v, el O y = v := ⟨_, rfl⟩
            rw [hox] at cx
            rw [hoy] at cy
            obtain ⟨byz, hyz⟩ : ∃ b, rchB g (y : Int) (z : Int) = b := ⟨_, rfl⟩
            obtain ⟨bxz, hxz⟩ : ∃ b, rchB g (x : Int) (z : Int) = b := ⟨_, rfl⟩
            have hgl := HGP.out.1
            have hcase : (bxy = false ∧ ox ≠ oy) ∨ (bxy = true ∧ byx = false ∧ ox ≠ oy ∧ (byz = false ∨ byz = true ∧ bxz = true)) ∨ (bxy = true ∧ byx = true ∧ ox = oy ∧ (byz = false ∨ byz = true ∧ bxz = true)) := by
              obtain ⟨h1, h2⟩ := HBB2.out
              have heq : ox = oy ↔ bxy = true ∧ byx = true := by
                obtain ⟨ix, a1, a2⟩ := grp_has (mutB_eqv' g) (x := x) (by omega)
                obtain ⟨iy, b1, b2⟩ := grp_has (mutB_eqv' g) (x := y) (by omega)
                have hs := grp_same (mutB_eqv' g) a1 b1 a2 b2
                have hLe : grpI (mutB g) g.length = Lg := HLG.out
                rw [hLe] at a1 a2 b1 b2
                have e1 := HO2.out ix (by rw [← HM.out]; exact a1) x a2
                have e2 := HO2.out iy (by rw [← HM.out]; exact b1) y b2
                rw [← hox, ← hoy, e1, e2, hs]
                unfold mutB
                rw [h1, h2, Bool.and_eq_true]
              have htr : bxy = true → byz = true → bxz = true := fun q1 q2 => by
                rw [← h1, rchB_nat (by omega) (by omega)] at q1
                rw [← hyz, rchB_nat (by omega) (by omega)] at q2
                rw [← hxz, rchB_nat (by omega) (by omega)]
                exact q1.trans q2
              cases bxy <;> cases byx <;> cases byz <;> simp_all
            have HB0 : Hid (∀ W, Below wx.heap.size wx W → Below w.heap.size w W) := fun W h => (HB2.out.trans (HBx.out.mono HB2.out.size)).trans (h.mono (Nat.le_trans HB2.out.size HBx.out.size))
            have L0 : ∀ (p' q' : Int) (b : Bool), rchB g p' q' = b → Hid (∀ W, Below wx.heap.size wx W → Calls Try.prog 12 #[.slice (some ⟨gb, off, none⟩) k cg, .int .i64 p', .int .i64 q'] W fun e w' => e = .returned (.bool b) ∧ Below W.heap.size W w') := fun p' q' b hb W h => by
              have h9 := HRE.out W p' q' (HBx.out.trans (h.mono HBx.out.size))
              rw [hb] at h9
              exact h9
            have HYZ := L0 y z byz hyz
            have HXZ := L0 x z bxz hxz
            have HXX := L0 x x true ((rchB_nat (by omega) (by omega)).2 .refl)
            have HXK := L0 x k false (rchB_out (by rw [hgl]; omega))
            have HMX := L0 (-1) x false (rchB_out (by omega))
            have HAW : Hid (∀ W, Below wx.heap.size wx W → Calls Try.prog 14 #[] W fun e w' => e = .returned (.bool true) ∧ Below W.heap.size W w') := fun W h => awake_any W
            clear hx7 hO hox hoy hyz hxz L0 HBB2 HO2 HX6 HRE HROW HCR
            rcases hcase with ⟨rfl, hne⟩ | ⟨rfl, rfl, hne, rfl | ⟨rfl, rfl⟩⟩ | ⟨rfl, rfl, heq, rfl | ⟨rfl, rfl⟩⟩
            · have e5 : ((ox : Int) == (oy : Int)) = false := by simp; omega
              have e6 : decide (ox = oy) = false := decide_eq_false hne
              clear hne
              go_upto_region 22 with fail
              rename_i K9 hK9
              refine wp_region_typed (V := fun zq v _ => v = ([.slice (some ⟨p, 0, none⟩) k k, .int .i64 (x : Int), .pointer (some ⟨p, x, none⟩), .int .i64 (ox : Int), .slice (some ⟨p, 0, none⟩) k k, .int .i64 (y : Int), .pointer (some ⟨p, y, none⟩), .int .i64 (oy : Int), .bool false, .bool false, .bool false, undef, .bool false, .bool true, .bool true, .bool false, .bool true, .bool true, undef, undef, undef, undef, undef, .bool true, .bool true, undef, undef, undef, undef, .bool true, .bool true, .bool true, .slice (some ⟨gb, off, none⟩) k cg, .int .i64 (x : Int), .int .i64 (x : Int), .bool true, .bool true, .bool true, .slice (some ⟨gb, off, none⟩) k cg, .int .i64 (x : Int), .slice (some ⟨gb, off, none⟩) k cg, .int .i64 (k : Int), .bool false, .bool true, .bool true, .bool true, .slice (some ⟨gb, off, none⟩) k cg, .int .i64 (x : Int), .bool false, .bool true, .bool true, .bool true, .bool true, .bool true, .bool true] : List Value).getD zq undef) (by rfl) (fun z v w w' h hb => h) (by kernel_rfl) (dst_in (by kernel_rfl)) ?_ ?_
              · intro z0 o0 a w1 hi hb1 hrest hdep
                have hlt : z0 < 55 := (Array.getElem?_eq_some_iff.1 hi).1
                have ez : z0 = 0 ∨ z0 = 1 ∨ z0 = 2 ∨ z0 = 3 ∨ z0 = 4 ∨ z0 = 5 ∨ z0 = 6 ∨ z0 = 7 ∨ z0 = 8 ∨ z0 = 9 ∨ z0 = 10 ∨ z0 = 11 ∨ z0 = 12 ∨ z0 = 13 ∨ z0 = 14 ∨ z0 = 15 ∨ z0 = 16 ∨ z0 = 17 ∨ z0 = 18 ∨ z0 = 19 ∨ z0 = 20 ∨ z0 = 21 ∨ z0 = 22 ∨ z0 = 23 ∨ z0 = 24 ∨ z0 = 25 ∨ z0 = 26 ∨ z0 = 27 ∨ z0 = 28 ∨ z0 = 29 ∨ z0 = 30 ∨ z0 = 31 ∨ z0 = 32 ∨ z0 = 33 ∨ z0 = 34 ∨ z0 = 35 ∨ z0 = 36 ∨ z0 = 37 ∨ z0 = 38 ∨ z0 = 39 ∨ z0 = 40 ∨ z0 = 41 ∨ z0 = 42 ∨ z0 = 43 ∨ z0 = 44 ∨ z0 = 45 ∨ z0 = 46 ∨ z0 = 47 ∨ z0 = 48 ∨ z0 = 49 ∨ z0 = 50 ∨ z0 = 51 ∨ z0 = 52 ∨ z0 = 53 ∨ z0 = 54 := by omega
                rcases ez with rfl | rfl | rfl | rfl | rfl | rfl | rfl | rfl | rfl | rfl | rfl | rfl | rfl | rfl | rfl | rfl | rfl | rfl | rfl | rfl | rfl | rfl | rfl | rfl | rfl | rfl | rfl | rfl | rfl | rfl | rfl | rfl | rfl | rfl | rfl | rfl | rfl | rfl | rfl | rfl | rfl | rfl | rfl | rfl | rfl | rfl | rfl | rfl | rfl | rfl | rfl | rfl | rfl | rfl | rfl
                · obtain rfl := Option.some.inj hi
                  have e16 : a.eval (.tmp 16) = .slice (some ⟨p, 0, none⟩) k k := eval_of ((hrest 16 (no_dst0 (by kernel_rfl))).trans rfl)
                  exact wpOp_of rfl rfl (wp_run (v := .slice (some ⟨p, 0, none⟩) k k) (w' := w1) (xmove rfl e16) ⟨_, rfl, rfl, Below.refl _ w1⟩)
                · obtain rfl := Option.some.inj hi
                  have e12 : a.eval (.tmp 12) = .int .i64 (x : Int) := eval_of ((hrest 12 (no_dst0 (by kernel_rfl))).trans rfl)
                  exact wpOp_of rfl rfl (wp_run (v := .int .i64 (x : Int)) (w' := w1) (xmove rfl e12) ⟨_, rfl, rfl, Below.refl _ w1⟩)
                · obtain rfl := Option.some.inj hi
                  obtain ⟨u122, h122, g122⟩ := hdep ⟨0, .data⟩ (by simp) rfl _ 122 rfl rfl
                  have g122 : u122 = .slice (some ⟨p, 0, none⟩) k k := g122
                  subst g122
                  have e122 := eval_of h122
                  obtain ⟨u123, h123, g123⟩ := hdep ⟨1, .data⟩ (by simp) rfl _ 123 rfl rfl
                  have g123 : u123 = .int .i64 (x : Int) := g123
                  subst g123
                  have e123 := eval_of h123
                  exact wpOp_of rfl rfl (wp_run (v := .pointer (some ⟨p, x, none⟩)) (w' := w1) (xindex rfl e122 e123 hxk) ⟨_, rfl, rfl, Below.refl _ w1⟩)
                · obtain rfl := Option.some.inj hi
                  obtain ⟨u124, h124, g124⟩ := hdep ⟨2, .data⟩ (by simp) rfl _ 124 rfl rfl
                  have g124 : u124 = .pointer (some ⟨p, x, none⟩) := g124
                  subst g124
                  have e124 := eval_of h124
                  exact wpOp_of rfl rfl (wp_run (v := .int .i64 (ox : Int)) (w' := w1) (xload rfl e124 ((hb1.cell (p := ⟨p, x, none⟩) hpl7).trans cx)) ⟨_, rfl, rfl, Below.refl _ w1⟩)
                · obtain rfl := Option.some.inj hi
                  have e16 : a.eval (.tmp 16) = .slice (some ⟨p, 0, none⟩) k k := eval_of ((hrest 16 (no_dst0 (by kernel_rfl))).trans rfl)
                  exact wpOp_of rfl rfl (wp_run (v := .slice (some ⟨p, 0, none⟩) k k) (w' := w1) (xmove rfl e16) ⟨_, rfl, rfl, Below.refl _ w1⟩)
                · obtain rfl := Option.some.inj hi
                  have e13 : a.eval (.tmp 13) = .int .i64 (y : Int) := eval_of ((hrest 13 (no_dst0 (by kernel_rfl))).trans rfl)
                  exact wpOp_of rfl rfl (wp_run (v := .int .i64 (y : Int)) (w' := w1) (xmove rfl e13) ⟨_, rfl, rfl, Below.refl _ w1⟩)
                · obtain rfl := Option.some.inj hi
                  obtain ⟨u126, h126, g126⟩ := hdep ⟨4, .data⟩ (by simp) rfl _ 126 rfl rfl
                  have g126 : u126 = .slice (some ⟨p, 0, none⟩) k k := g126
                  subst g126
                  have e126 := eval_of h126
                  obtain ⟨u127, h127, g127⟩ := hdep ⟨5, .data⟩ (by simp) rfl _ 127 rfl rfl
                  have g127 : u127 = .int .i64 (y : Int) := g127
                  subst g127
                  have e127 := eval_of h127
                  exact wpOp_of rfl rfl (wp_run (v := .pointer (some ⟨p, y, none⟩)) (w' := w1) (xindex rfl e126 e127 hyk) ⟨_, rfl, rfl, Below.refl _ w1⟩)
                · obtain rfl := Option.some.inj hi
                  obtain ⟨u128, h128, g128⟩ := hdep ⟨6, .data⟩ (by simp) rfl _ 128 rfl rfl
                  have g128 : u128 = .pointer (some ⟨p, y, none⟩) := g128
                  subst g128
                  have e128 := eval_of h128
                  exact wpOp_of rfl rfl (wp_run (v := .int .i64 (oy : Int)) (w' := w1) (xload rfl e128 ((hb1.cell (p := ⟨p, y, none⟩) hpl7).trans cy)) ⟨_, rfl, rfl, Below.refl _ w1⟩)
                · obtain rfl := Option.some.inj hi
                  obtain ⟨u125, h125, g125⟩ := hdep ⟨3, .data⟩ (by simp) rfl _ 125 rfl rfl
                  have g125 : u125 = .int .i64 (ox : Int) := g125
                  subst g125
                  have e125 := eval_of h125
                  obtain ⟨u129, h129, g129⟩ := hdep ⟨7, .data⟩ (by simp) rfl _ 129 rfl rfl
                  have g129 : u129 = .int .i64 (oy : Int) := g129
                  subst g129
                  have e129 := eval_of h129
                  exact wpOp_of rfl rfl (wp_run (v := .bool false) (w' := w1) ((xeqi rfl e125 e129).trans (by rw [e5])) ⟨_, rfl, rfl, Below.refl _ w1⟩)
                · obtain rfl := Option.some.inj hi
                  have e19 : a.eval (.tmp 19) = .bool false := eval_of ((hrest 19 (no_dst0 (by kernel_rfl))).trans rfl)
                  exact wpOp_of rfl rfl (wp_run (v := .bool false) (w' := w1) (xmove rfl e19) ⟨_, rfl, rfl, Below.refl _ w1⟩)
                · obtain rfl := Option.some.inj hi
                  obtain ⟨u131, h131, g131⟩ := hdep ⟨9, .data⟩ (by simp) rfl _ 131 rfl rfl
                  have g131 : u131 = .bool false := g131
                  subst g131
                  have e131 := eval_of h131
                  exact wpOp_of rfl rfl (wp_run (v := .bool false) (w' := w1) (xmove rfl e131) ⟨_, rfl, rfl, Below.refl _ w1⟩)
                · obtain rfl := Option.some.inj hi
                  obtain ⟨gu, gh, gg⟩ := hdep ⟨10, .guard⟩ (by simp) rfl _ 132 rfl rfl
                  have gg : gu = .bool false := gg
                  subst gg
                  exact wpOp_no rfl rfl rfl rfl gh (by decide) ⟨_, rfl, rfl, Below.refl _ w1⟩
                · obtain rfl := Option.some.inj hi
                  obtain ⟨u132, h132, g132⟩ := hdep ⟨10, .data⟩ (by simp) rfl _ 132 rfl rfl
                  have g132 : u132 = .bool false := g132
                  subst g132
                  have e132 := eval_of h132
                  obtain ⟨u133, h133, g133⟩ := hdep ⟨11, .data⟩ (by simp) rfl _ 133 rfl rfl
                  have g133 : u133 = undef := g133
                  subst g133
                  have e133 := eval_of h133
                  exact wpOp_of rfl rfl (wp_run (v := .bool false) (w' := w1) (xpick rfl e132 e133 rfl) ⟨_, rfl, rfl, Below.refl _ w1⟩)
                · obtain rfl := Option.some.inj hi
                  obtain ⟨u130, h130, g130⟩ := hdep ⟨8, .data⟩ (by simp) rfl _ 130 rfl rfl
                  have g130 : u130 = .bool false := g130
                  subst g130
                  have e130 := eval_of h130
                  obtain ⟨u134, h134, g134⟩ := hdep ⟨12, .data⟩ (by simp) rfl _ 134 rfl rfl
                  have g134 : u134 = .bool false := g134
                  subst g134
                  have e134 := eval_of h134
                  exact wpOp_of rfl rfl (wp_run (v := .bool true) (w' := w1) (xeqb rfl e130 e134) ⟨_, rfl, rfl, Below.refl _ w1⟩)
                · obtain rfl := Option.some.inj hi
                  obtain ⟨u135, h135, g135⟩ := hdep ⟨13, .data⟩ (by simp) rfl _ 135 rfl rfl
                  have g135 : u135 = .bool true := g135
                  subst g135
                  have e135 := eval_of h135
                  exact wpOp_of rfl rfl (wp_run (v := .bool true) (w' := w1) (xmove rfl e135) ⟨_, rfl, rfl, Below.refl _ w1⟩)
                · obtain rfl := Option.some.inj hi
                  obtain ⟨gu, gh, gg⟩ := hdep ⟨14, .guard⟩ (by simp) rfl _ 136 rfl rfl
                  have gg : gu = .bool true := gg
                  subst gg
                  have e19 : a.eval (.tmp 19) = .bool false := eval_of ((hrest 19 (no_dst0 (by kernel_rfl))).trans rfl)
                  exact wpOp_yes rfl rfl rfl rfl gh (wp_run (v := .bool false) (w' := w1) (xmove rfl e19) ⟨_, rfl, rfl, Below.refl _ w1⟩)
                · obtain rfl := Option.some.inj hi
                  obtain ⟨gu, gh, gg⟩ := hdep ⟨14, .guard⟩ (by simp) rfl _ 136 rfl rfl
                  have gg : gu = .bool true := gg
                  subst gg
                  obtain ⟨u137, h137, g137⟩ := hdep ⟨15, .data⟩ (by simp) rfl _ 137 rfl rfl
                  have g137 : u137 = .bool false := g137
                  subst g137
                  have e137 := eval_of h137
                  exact wpOp_yes rfl rfl rfl rfl gh (wp_run (v := .bool true) (w' := w1) (xnot rfl e137) ⟨_, rfl, rfl, Below.refl _ w1⟩)
                · obtain rfl := Option.some.inj hi
                  obtain ⟨gu, gh, gg⟩ := hdep ⟨14, .guard⟩ (by simp) rfl _ 136 rfl rfl
                  have gg : gu = .bool true := gg
                  subst gg
                  obtain ⟨u138, h138, g138⟩ := hdep ⟨16, .data⟩ (by simp) rfl _ 138 rfl rfl
                  have g138 : u138 = .bool true := g138
                  subst g138
                  have e138 := eval_of h138
                  exact wpOp_yes rfl rfl rfl rfl gh (wp_run (v := .bool true) (w' := w1) (xmove rfl e138) ⟨_, rfl, rfl, Below.refl _ w1⟩)
                · obtain rfl := Option.some.inj hi
                  obtain ⟨gu, gh, gg⟩ := hdep ⟨17, .guard⟩ (by simp) rfl _ 139 rfl rfl
                  have gg : gu = .bool true := gg
                  subst gg
                  exact wpOp_no rfl rfl rfl rfl gh (by decide) ⟨_, rfl, rfl, Below.refl _ w1⟩
                · obtain rfl := Option.some.inj hi
                  obtain ⟨gu, gh, gg⟩ := hdep ⟨17, .guard⟩ (by simp) rfl _ 139 rfl rfl
                  have gg : gu = .bool true := gg
                  subst gg
                  exact wpOp_no rfl rfl rfl rfl gh (by decide) ⟨_, rfl, rfl, Below.refl _ w1⟩
                · obtain rfl := Option.some.inj hi
                  obtain ⟨gu, gh, gg⟩ := hdep ⟨17, .guard⟩ (by simp) rfl _ 139 rfl rfl
                  have gg : gu = .bool true := gg
                  subst gg
                  exact wpOp_no rfl rfl rfl rfl gh (by decide) ⟨_, rfl, rfl, Below.refl _ w1⟩
                · obtain rfl := Option.some.inj hi
                  obtain ⟨gu, gh, gg⟩ := hdep ⟨17, .guard⟩ (by simp) rfl _ 139 rfl rfl
                  have gg : gu = .bool true := gg
                  subst gg
                  exact wpOp_no rfl rfl rfl rfl gh (by decide) ⟨_, rfl, rfl, Below.refl _ w1⟩
                · obtain rfl := Option.some.inj hi
                  obtain ⟨gu, gh, gg⟩ := hdep ⟨17, .guard⟩ (by simp) rfl _ 139 rfl rfl
                  have gg : gu = .bool true := gg
                  subst gg
                  exact wpOp_no rfl rfl rfl rfl gh (by decide) ⟨_, rfl, rfl, Below.refl _ w1⟩
                · obtain rfl := Option.some.inj hi
                  obtain ⟨gu, gh, gg⟩ := hdep ⟨14, .guard⟩ (by simp) rfl _ 136 rfl rfl
                  have gg : gu = .bool true := gg
                  subst gg
                  obtain ⟨u139, h139, g139⟩ := hdep ⟨17, .data⟩ (by simp) rfl _ 139 rfl rfl
                  have g139 : u139 = .bool true := g139
                  subst g139
                  have e139 := eval_of h139
                  obtain ⟨u144, h144, g144⟩ := hdep ⟨22, .data⟩ (by simp) rfl _ 144 rfl rfl
                  have g144 : u144 = undef := g144
                  subst g144
                  have e144 := eval_of h144
                  exact wpOp_yes rfl rfl rfl rfl gh (wp_run (v := .bool true) (w' := w1) (xpick rfl e139 rfl e144) ⟨_, rfl, rfl, Below.refl _ w1⟩)
                · obtain rfl := Option.some.inj hi
                  obtain ⟨gu, gh, gg⟩ := hdep ⟨14, .guard⟩ (by simp) rfl _ 136 rfl rfl
                  have gg : gu = .bool true := gg
                  subst gg
                  obtain ⟨u145, h145, g145⟩ := hdep ⟨23, .data⟩ (by simp) rfl _ 145 rfl rfl
                  have g145 : u145 = .bool true := g145
                  subst g145
                  have e145 := eval_of h145
                  exact wpOp_yes rfl rfl rfl rfl gh (wp_run (v := .bool true) (w' := w1) (xmove rfl e145) ⟨_, rfl, rfl, Below.refl _ w1⟩)
                · obtain rfl := Option.some.inj hi
                  obtain ⟨gu, gh, gg⟩ := hdep ⟨24, .guard⟩ (by simp) rfl _ 146 rfl rfl
                  have gg : gu = .bool true := gg
                  subst gg
                  exact wpOp_no rfl rfl rfl rfl gh (by decide) ⟨_, rfl, rfl, Below.refl _ w1⟩
                · obtain rfl := Option.some.inj hi
                  obtain ⟨gu, gh, gg⟩ := hdep ⟨24, .guard⟩ (by simp) rfl _ 146 rfl rfl
                  have gg : gu = .bool true := gg
                  subst gg
                  exact wpOp_no rfl rfl rfl rfl gh (by decide) ⟨_, rfl, rfl, Below.refl _ w1⟩
                · obtain rfl := Option.some.inj hi
                  obtain ⟨gu, gh, gg⟩ := hdep ⟨24, .guard⟩ (by simp) rfl _ 146 rfl rfl
                  have gg : gu = .bool true := gg
                  subst gg
                  exact wpOp_no rfl rfl rfl rfl gh (by decide) ⟨_, rfl, rfl, Below.refl _ w1⟩
                · obtain rfl := Option.some.inj hi
                  obtain ⟨gu, gh, gg⟩ := hdep ⟨24, .guard⟩ (by simp) rfl _ 146 rfl rfl
                  have gg : gu = .bool true := gg
                  subst gg
                  exact wpOp_no rfl rfl rfl rfl gh (by decide) ⟨_, rfl, rfl, Below.refl _ w1⟩
                · obtain rfl := Option.some.inj hi
                  obtain ⟨gu, gh, gg⟩ := hdep ⟨14, .guard⟩ (by simp) rfl _ 136 rfl rfl
                  have gg : gu = .bool true := gg
                  subst gg
                  obtain ⟨u146, h146, g146⟩ := hdep ⟨24, .data⟩ (by simp) rfl _ 146 rfl rfl
                  have g146 : u146 = .bool true := g146
                  subst g146
                  have e146 := eval_of h146
                  obtain ⟨u150, h150, g150⟩ := hdep ⟨28, .data⟩ (by simp) rfl _ 150 rfl rfl
                  have g150 : u150 = undef := g150
                  subst g150
                  have e150 := eval_of h150
                  exact wpOp_yes rfl rfl rfl rfl gh (wp_run (v := .bool true) (w' := w1) (xpick rfl e146 rfl e150) ⟨_, rfl, rfl, Below.refl _ w1⟩)
                · obtain rfl := Option.some.inj hi
                  obtain ⟨u136, h136, g136⟩ := hdep ⟨14, .data⟩ (by simp) rfl _ 136 rfl rfl
                  have g136 : u136 = .bool true := g136
                  subst g136
                  have e136 := eval_of h136
                  obtain ⟨u151, h151, g151⟩ := hdep ⟨29, .data⟩ (by simp) rfl _ 151 rfl rfl
                  have g151 : u151 = .bool true := g151
                  subst g151
                  have e151 := eval_of h151
                  exact wpOp_of rfl rfl (wp_run (v := .bool true) (w' := w1) (xpick rfl e136 e151 rfl) ⟨_, rfl, rfl, Below.refl _ w1⟩)
                · obtain rfl := Option.some.inj hi
                  obtain ⟨u152, h152, g152⟩ := hdep ⟨30, .data⟩ (by simp) rfl _ 152 rfl rfl
                  have g152 : u152 = .bool true := g152
                  subst g152
                  have e152 := eval_of h152
                  exact wpOp_of rfl rfl (wp_run (v := .bool true) (w' := w1) (xmove rfl e152) ⟨_, rfl, rfl, Below.refl _ w1⟩)
                · obtain rfl := Option.some.inj hi
                  obtain ⟨gu, gh, gg⟩ := hdep ⟨31, .guard⟩ (by simp) rfl _ 153 rfl rfl
                  have gg : gu = .bool true := gg
                  subst gg
                  have e11 : a.eval (.tmp 11) = .slice (some ⟨gb, off, none⟩) k cg := eval_of ((hrest 11 (no_dst0 (by kernel_rfl))).trans rfl)
                  exact wpOp_yes rfl rfl rfl rfl gh (wp_run (v := .slice (some ⟨gb, off, none⟩) k cg) (w' := w1) (xmove rfl e11) ⟨_, rfl, rfl, Below.refl _ w1⟩)
                · obtain rfl := Option.some.inj hi
                  obtain ⟨gu, gh, gg⟩ := hdep ⟨31, .guard⟩ (by simp) rfl _ 153 rfl rfl
                  have gg : gu = .bool true := gg
                  subst gg
                  have e12 : a.eval (.tmp 12) = .int .i64 (x : Int) := eval_of ((hrest 12 (no_dst0 (by kernel_rfl))).trans rfl)
                  exact wpOp_yes rfl rfl rfl rfl gh (wp_run (v := .int .i64 (x : Int)) (w' := w1) (xmove rfl e12) ⟨_, rfl, rfl, Below.refl _ w1⟩)
                · obtain rfl := Option.some.inj hi
                  obtain ⟨gu, gh, gg⟩ := hdep ⟨31, .guard⟩ (by simp) rfl _ 153 rfl rfl
                  have gg : gu = .bool true := gg
                  subst gg
                  have e12 : a.eval (.tmp 12) = .int .i64 (x : Int) := eval_of ((hrest 12 (no_dst0 (by kernel_rfl))).trans rfl)
                  exact wpOp_yes rfl rfl rfl rfl gh (wp_run (v := .int .i64 (x : Int)) (w' := w1) (xmove rfl e12) ⟨_, rfl, rfl, Below.refl _ w1⟩)
                · obtain rfl := Option.some.inj hi
                  obtain ⟨gu, gh, gg⟩ := hdep ⟨31, .guard⟩ (by simp) rfl _ 153 rfl rfl
                  have gg : gu = .bool true := gg
                  subst gg
                  obtain ⟨u154, h154, g154⟩ := hdep ⟨32, .data⟩ (by simp) rfl _ 154 rfl rfl
                  have g154 : u154 = .slice (some ⟨gb, off, none⟩) k cg := g154
                  subst g154
                  have e154 := eval_of h154
                  obtain ⟨u155, h155, g155⟩ := hdep ⟨33, .data⟩ (by simp) rfl _ 155 rfl rfl
                  have g155 : u155 = .int .i64 (x : Int) := g155
                  subst g155
                  have e155 := eval_of h155
                  obtain ⟨u156, h156, g156⟩ := hdep ⟨34, .data⟩ (by simp) rfl _ 156 rfl rfl
                  have g156 : u156 = .int .i64 (x : Int) := g156
                  subst g156
                  have e156 := eval_of h156
                  exact wpOp_yes rfl rfl rfl rfl gh (wp_call3 _ _ Try.func12 (by decide) (by intro hh; cases hh) _ _ _ _ _ _ e154 e155 e156 _ rfl (HXX.out w1 hb1) (fun w' hb => ⟨_, rfl, rfl, hb⟩))
                · obtain rfl := Option.some.inj hi
                  obtain ⟨u153, h153, g153⟩ := hdep ⟨31, .data⟩ (by simp) rfl _ 153 rfl rfl
                  have g153 : u153 = .bool true := g153
                  subst g153
                  have e153 := eval_of h153
                  obtain ⟨u157, h157, g157⟩ := hdep ⟨35, .data⟩ (by simp) rfl _ 157 rfl rfl
                  have g157 : u157 = .bool true := g157
                  subst g157
                  have e157 := eval_of h157
                  exact wpOp_of rfl rfl (wp_run (v := .bool true) (w' := w1) (xpick rfl e153 e157 rfl) ⟨_, rfl, rfl, Below.refl _ w1⟩)
                · obtain rfl := Option.some.inj hi
                  obtain ⟨u158, h158, g158⟩ := hdep ⟨36, .data⟩ (by simp) rfl _ 158 rfl rfl
                  have g158 : u158 = .bool true := g158
                  subst g158
                  have e158 := eval_of h158
                  exact wpOp_of rfl rfl (wp_run (v := .bool true) (w' := w1) (xmove rfl e158) ⟨_, rfl, rfl, Below.refl _ w1⟩)
                · obtain rfl := Option.some.inj hi
                  obtain ⟨gu, gh, gg⟩ := hdep ⟨37, .guard⟩ (by simp) rfl _ 159 rfl rfl
                  have gg : gu = .bool true := gg
                  subst gg
                  have e11 : a.eval (.tmp 11) = .slice (some ⟨gb, off, none⟩) k cg := eval_of ((hrest 11 (no_dst0 (by kernel_rfl))).trans rfl)
                  exact wpOp_yes rfl rfl rfl rfl gh (wp_run (v := .slice (some ⟨gb, off, none⟩) k cg) (w' := w1) (xmove rfl e11) ⟨_, rfl, rfl, Below.refl _ w1⟩)
                · obtain rfl := Option.some.inj hi
                  obtain ⟨gu, gh, gg⟩ := hdep ⟨37, .guard⟩ (by simp) rfl _ 159 rfl rfl
                  have gg : gu = .bool true := gg
                  subst gg
                  have e12 : a.eval (.tmp 12) = .int .i64 (x : Int) := eval_of ((hrest 12 (no_dst0 (by kernel_rfl))).trans rfl)
                  exact wpOp_yes rfl rfl rfl rfl gh (wp_run (v := .int .i64 (x : Int)) (w' := w1) (xmove rfl e12) ⟨_, rfl, rfl, Below.refl _ w1⟩)
                · obtain rfl := Option.some.inj hi
                  obtain ⟨gu, gh, gg⟩ := hdep ⟨37, .guard⟩ (by simp) rfl _ 159 rfl rfl
                  have gg : gu = .bool true := gg
                  subst gg
                  have e11 : a.eval (.tmp 11) = .slice (some ⟨gb, off, none⟩) k cg := eval_of ((hrest 11 (no_dst0 (by kernel_rfl))).trans rfl)
                  exact wpOp_yes rfl rfl rfl rfl gh (wp_run (v := .slice (some ⟨gb, off, none⟩) k cg) (w' := w1) (xmove rfl e11) ⟨_, rfl, rfl, Below.refl _ w1⟩)
                · obtain rfl := Option.some.inj hi
                  obtain ⟨gu, gh, gg⟩ := hdep ⟨37, .guard⟩ (by simp) rfl _ 159 rfl rfl
                  have gg : gu = .bool true := gg
                  subst gg
                  obtain ⟨u162, h162, g162⟩ := hdep ⟨40, .data⟩ (by simp) rfl _ 162 rfl rfl
                  have g162 : u162 = .slice (some ⟨gb, off, none⟩) k cg := g162
                  subst g162
                  have e162 := eval_of h162
                  exact wpOp_yes rfl rfl rfl rfl gh (wp_run (v := .int .i64 (k : Int)) (w' := w1) (xlen rfl e162) ⟨_, rfl, rfl, Below.refl _ w1⟩)
                · obtain rfl := Option.some.inj hi
                  obtain ⟨gu, gh, gg⟩ := hdep ⟨37, .guard⟩ (by simp) rfl _ 159 rfl rfl
                  have gg : gu = .bool true := gg
                  subst gg
                  obtain ⟨u160, h160, g160⟩ := hdep ⟨38, .data⟩ (by simp) rfl _ 160 rfl rfl
                  have g160 : u160 = .slice (some ⟨gb, off, none⟩) k cg := g160
                  subst g160
                  have e160 := eval_of h160
                  obtain ⟨u161, h161, g161⟩ := hdep ⟨39, .data⟩ (by simp) rfl _ 161 rfl rfl
                  have g161 : u161 = .int .i64 (x : Int) := g161
                  subst g161
                  have e161 := eval_of h161
                  obtain ⟨u163, h163, g163⟩ := hdep ⟨41, .data⟩ (by simp) rfl _ 163 rfl rfl
                  have g163 : u163 = .int .i64 (k : Int) := g163
                  subst g163
                  have e163 := eval_of h163
                  exact wpOp_yes rfl rfl rfl rfl gh (wp_call3 _ _ Try.func12 (by decide) (by intro hh; cases hh) _ _ _ _ _ _ e160 e161 e163 _ rfl (HXK.out w1 hb1) (fun w' hb => ⟨_, rfl, rfl, hb⟩))
                · obtain rfl := Option.some.inj hi
                  obtain ⟨gu, gh, gg⟩ := hdep ⟨37, .guard⟩ (by simp) rfl _ 159 rfl rfl
                  have gg : gu = .bool true := gg
                  subst gg
                  obtain ⟨u164, h164, g164⟩ := hdep ⟨42, .data⟩ (by simp) rfl _ 164 rfl rfl
                  have g164 : u164 = .bool false := g164
                  subst g164
                  have e164 := eval_of h164
                  exact wpOp_yes rfl rfl rfl rfl gh (wp_run (v := .bool true) (w' := w1) (xnot rfl e164) ⟨_, rfl, rfl, Below.refl _ w1⟩)
                · obtain rfl := Option.some.inj hi
                  obtain ⟨u159, h159, g159⟩ := hdep ⟨37, .data⟩ (by simp) rfl _ 159 rfl rfl
                  have g159 : u159 = .bool true := g159
                  subst g159
                  have e159 := eval_of h159
                  obtain ⟨u165, h165, g165⟩ := hdep ⟨43, .data⟩ (by simp) rfl _ 165 rfl rfl
                  have g165 : u165 = .bool true := g165
                  subst g165
                  have e165 := eval_of h165
                  exact wpOp_of rfl rfl (wp_run (v := .bool true) (w' := w1) (xpick rfl e159 e165 rfl) ⟨_, rfl, rfl, Below.refl _ w1⟩)
                · obtain rfl := Option.some.inj hi
                  obtain ⟨u166, h166, g166⟩ := hdep ⟨44, .data⟩ (by simp) rfl _ 166 rfl rfl
                  have g166 : u166 = .bool true := g166
                  subst g166
                  have e166 := eval_of h166
                  exact wpOp_of rfl rfl (wp_run (v := .bool true) (w' := w1) (xmove rfl e166) ⟨_, rfl, rfl, Below.refl _ w1⟩)
                · obtain rfl := Option.some.inj hi
                  obtain ⟨gu, gh, gg⟩ := hdep ⟨45, .guard⟩ (by simp) rfl _ 167 rfl rfl
                  have gg : gu = .bool true := gg
                  subst gg
                  have e11 : a.eval (.tmp 11) = .slice (some ⟨gb, off, none⟩) k cg := eval_of ((hrest 11 (no_dst0 (by kernel_rfl))).trans rfl)
                  exact wpOp_yes rfl rfl rfl rfl gh (wp_run (v := .slice (some ⟨gb, off, none⟩) k cg) (w' := w1) (xmove rfl e11) ⟨_, rfl, rfl, Below.refl _ w1⟩)
                · obtain rfl := Option.some.inj hi
                  obtain ⟨gu, gh, gg⟩ := hdep ⟨45, .guard⟩ (by simp) rfl _ 167 rfl rfl
                  have gg : gu = .bool true := gg
                  subst gg
                  have e12 : a.eval (.tmp 12) = .int .i64 (x : Int) := eval_of ((hrest 12 (no_dst0 (by kernel_rfl))).trans rfl)
                  exact wpOp_yes rfl rfl rfl rfl gh (wp_run (v := .int .i64 (x : Int)) (w' := w1) (xmove rfl e12) ⟨_, rfl, rfl, Below.refl _ w1⟩)
                · obtain rfl := Option.some.inj hi
                  obtain ⟨gu, gh, gg⟩ := hdep ⟨45, .guard⟩ (by simp) rfl _ 167 rfl rfl
                  have gg : gu = .bool true := gg
                  subst gg
                  obtain ⟨u168, h168, g168⟩ := hdep ⟨46, .data⟩ (by simp) rfl _ 168 rfl rfl
                  have g168 : u168 = .slice (some ⟨gb, off, none⟩) k cg := g168
                  subst g168
                  have e168 := eval_of h168
                  obtain ⟨u169, h169, g169⟩ := hdep ⟨47, .data⟩ (by simp) rfl _ 169 rfl rfl
                  have g169 : u169 = .int .i64 (x : Int) := g169
                  subst g169
                  have e169 := eval_of h169
                  exact wpOp_yes rfl rfl rfl rfl gh (wp_call3 _ _ Try.func12 (by decide) (by intro hh; cases hh) _ _ _ _ _ _ e168 rfl e169 _ rfl (HMX.out w1 hb1) (fun w' hb => ⟨_, rfl, rfl, hb⟩))
                · obtain rfl := Option.some.inj hi
                  obtain ⟨gu, gh, gg⟩ := hdep ⟨45, .guard⟩ (by simp) rfl _ 167 rfl rfl
                  have gg : gu = .bool true := gg
                  subst gg
                  obtain ⟨u170, h170, g170⟩ := hdep ⟨48, .data⟩ (by simp) rfl _ 170 rfl rfl
                  have g170 : u170 = .bool false := g170
                  subst g170
                  have e170 := eval_of h170
                  exact wpOp_yes rfl rfl rfl rfl gh (wp_run (v := .bool true) (w' := w1) (xnot rfl e170) ⟨_, rfl, rfl, Below.refl _ w1⟩)
                · obtain rfl := Option.some.inj hi
                  obtain ⟨u167, h167, g167⟩ := hdep ⟨45, .data⟩ (by simp) rfl _ 167 rfl rfl
                  have g167 : u167 = .bool true := g167
                  subst g167
                  have e167 := eval_of h167
                  obtain ⟨u171, h171, g171⟩ := hdep ⟨49, .data⟩ (by simp) rfl _ 171 rfl rfl
                  have g171 : u171 = .bool true := g171
                  subst g171
                  have e171 := eval_of h171
                  exact wpOp_of rfl rfl (wp_run (v := .bool true) (w' := w1) (xpick rfl e167 e171 rfl) ⟨_, rfl, rfl, Below.refl _ w1⟩)
                · obtain rfl := Option.some.inj hi
                  obtain ⟨u172, h172, g172⟩ := hdep ⟨50, .data⟩ (by simp) rfl _ 172 rfl rfl
                  have g172 : u172 = .bool true := g172
                  subst g172
                  have e172 := eval_of h172
                  exact wpOp_of rfl rfl (wp_run (v := .bool true) (w' := w1) (xmove rfl e172) ⟨_, rfl, rfl, Below.refl _ w1⟩)
                · obtain rfl := Option.some.inj hi
                  obtain ⟨gu, gh, gg⟩ := hdep ⟨51, .guard⟩ (by simp) rfl _ 173 rfl rfl
                  have gg : gu = .bool true := gg
                  subst gg
                  exact wpOp_yes rfl rfl rfl rfl gh (wp_call0 _ _ Try.func14 (by decide) (by intro hh; cases hh) _ rfl (HAW.out w1 hb1) (fun w' hb => ⟨_, rfl, rfl, hb⟩))
                · obtain rfl := Option.some.inj hi
                  obtain ⟨u173, h173, g173⟩ := hdep ⟨51, .data⟩ (by simp) rfl _ 173 rfl rfl
                  have g173 : u173 = .bool true := g173
                  subst g173
                  have e173 := eval_of h173
                  obtain ⟨u174, h174, g174⟩ := hdep ⟨52, .data⟩ (by simp) rfl _ 174 rfl rfl
                  have g174 : u174 = .bool true := g174
                  subst g174
                  have e174 := eval_of h174
                  exact wpOp_of rfl rfl (wp_run (v := .bool true) (w' := w1) (xpick rfl e173 e174 rfl) ⟨_, rfl, rfl, Below.refl _ w1⟩)
                · obtain rfl := Option.some.inj hi
                  obtain ⟨u175, h175, g175⟩ := hdep ⟨53, .data⟩ (by simp) rfl _ 175 rfl rfl
                  have g175 : u175 = .bool true := g175
                  subst g175
                  have e175 := eval_of h175
                  exact wpOp_of rfl rfl (wp_run (v := .bool true) (w' := w1) (xassign rfl e175) ⟨_, rfl, rfl, Below.refl _ w1⟩)
              · intro listed a w2' h hr
                have hl := all_listed (by kernel_rfl) h.lsize hr
                obtain ⟨v', h4, hv⟩ := h.done 54 _ 10 rfl rfl (hl 54 (by decide))
                have hv : v' = .bool true := hv
                subst hv
                have hb := h.below
                have hdf : a.defers = [] := h.defers
                clear hl hr h
                refine hK9 _ _ (wp_ret ?_)
                show bodyPost Try.prog Try.f5 (fun e w' => e = .returned (.bool true) ∧ Below w.heap.size w w') Exit.ret a w2'
                exact bodyPost_ret (v := .bool true) (res_reach h4) hdf ⟨rfl, HB0.out _ hb⟩
            · have e5 : ((ox : Int) == (oy : Int)) = false := by simp; omega
              have e6 : decide (ox = oy) = false := decide_eq_false hne
              clear hne
              go_upto_region 22 with fail
              rename_i K9 hK9
              refine wp_region_typed (V := fun zq v _ => v = ([.slice (some ⟨p, 0, none⟩) k k, .int .i64 (x : Int), .pointer (some ⟨p, x, none⟩), .int .i64 (ox : Int), .slice (some ⟨p, 0, none⟩) k k, .int .i64 (y : Int), .pointer (some ⟨p, y, none⟩), .int .i64 (oy : Int), .bool false, .bool true, .bool true, .bool false, .bool false, .bool true, .bool true, .bool true, .bool false, .bool false, .slice (some ⟨gb, off, none⟩) k cg, .int .i64 (y : Int), .int .i64 (z : Int), .bool false, .bool true, .bool true, .bool true, undef, undef, undef, undef, .bool true, .bool true, .bool true, .slice (some ⟨gb, off, none⟩) k cg, .int .i64 (x : Int), .int .i64 (x : Int), .bool true, .bool true, .bool true, .slice (some ⟨gb, off, none⟩) k cg, .int .i64 (x : Int), .slice (some ⟨gb, off, none⟩) k cg, .int .i64 (k : Int), .bool false, .bool true, .bool true, .bool true, .slice (some ⟨gb, off, none⟩) k cg, .int .i64 (x : Int), .bool false, .bool true, .bool true, .bool true, .bool true, .bool true, .bool true] : List Value).getD zq undef) (by rfl) (fun z v w w' h hb => h) (by kernel_rfl) (dst_in (by kernel_rfl)) ?_ ?_
              · intro z0 o0 a w1 hi hb1 hrest hdep
                have hlt : z0 < 55 := (Array.getElem?_eq_some_iff.1 hi).1
                have ez : z0 = 0 ∨ z0 = 1 ∨ z0 = 2 ∨ z0 = 3 ∨ z0 = 4 ∨ z0 = 5 ∨ z0 = 6 ∨ z0 = 7 ∨ z0 = 8 ∨ z0 = 9 ∨ z0 = 10 ∨ z0 = 11 ∨ z0 = 12 ∨ z0 = 13 ∨ z0 = 14 ∨ z0 = 15 ∨ z0 = 16 ∨ z0 = 17 ∨ z0 = 18 ∨ z0 = 19 ∨ z0 = 20 ∨ z0 = 21 ∨ z0 = 22 ∨ z0 = 23 ∨ z0 = 24 ∨ z0 = 25 ∨ z0 = 26 ∨ z0 = 27 ∨ z0 = 28 ∨ z0 = 29 ∨ z0 = 30 ∨ z0 = 31 ∨ z0 = 32 ∨ z0 = 33 ∨ z0 = 34 ∨ z0 = 35 ∨ z0 = 36 ∨ z0 = 37 ∨ z0 = 38 ∨ z0 = 39 ∨ z0 = 40 ∨ z0 = 41 ∨ z0 = 42 ∨ z0 = 43 ∨ z0 = 44 ∨ z0 = 45 ∨ z0 = 46 ∨ z0 = 47 ∨ z0 = 48 ∨ z0 = 49 ∨ z0 = 50 ∨ z0 = 51 ∨ z0 = 52 ∨ z0 = 53 ∨ z0 = 54 := by omega
                rcases ez with rfl | rfl | rfl | rfl | rfl | rfl | rfl | rfl | rfl | rfl | rfl | rfl | rfl | rfl | rfl | rfl | rfl | rfl | rfl | rfl | rfl | rfl | rfl | rfl | rfl | rfl | rfl | rfl | rfl | rfl | rfl | rfl | rfl | rfl | rfl | rfl | rfl | rfl | rfl | rfl | rfl | rfl | rfl | rfl | rfl | rfl | rfl | rfl | rfl | rfl | rfl | rfl | rfl | rfl | rfl
                · obtain rfl := Option.some.inj hi
                  have e16 : a.eval (.tmp 16) = .slice (some ⟨p, 0, none⟩) k k := eval_of ((hrest 16 (no_dst0 (by kernel_rfl))).trans rfl)
                  exact wpOp_of rfl rfl (wp_run (v := .slice (some ⟨p, 0, none⟩) k k) (w' := w1) (xmove rfl e16) ⟨_, rfl, rfl, Below.refl _ w1⟩)
                · obtain rfl := Option.some.inj hi
                  have e12 : a.eval (.tmp 12) = .int .i64 (x : Int) := eval_of ((hrest 12 (no_dst0 (by kernel_rfl))).trans rfl)
                  exact wpOp_of rfl rfl (wp_run (v := .int .i64 (x : Int)) (w' := w1) (xmove rfl e12) ⟨_, rfl, rfl, Below.refl _ w1⟩)
                · obtain rfl := Option.some.inj hi
                  obtain ⟨u122, h122, g122⟩ := hdep ⟨0, .data⟩ (by simp) rfl _ 122 rfl rfl
                  have g122 : u122 = .slice (some ⟨p, 0, none⟩) k k := g122
                  subst g122
                  have e122 := eval_of h122
                  obtain ⟨u123, h123, g123⟩ := hdep ⟨1, .data⟩ (by simp) rfl _ 123 rfl rfl
                  have g123 : u123 = .int .i64 (x : Int) := g123
                  subst g123
                  have e123 := eval_of h123
                  exact wpOp_of rfl rfl (wp_run (v := .pointer (some ⟨p, x, none⟩)) (w' := w1) (xindex rfl e122 e123 hxk) ⟨_, rfl, rfl, Below.refl _ w1⟩)
                · obtain rfl := Option.some.inj hi
                  obtain ⟨u124, h124, g124⟩ := hdep ⟨2, .data⟩ (by simp) rfl _ 124 rfl rfl
                  have g124 : u124 = .pointer (some ⟨p, x, none⟩) := g124
                  subst g124
                  have e124 := eval_of h124
                  exact wpOp_of rfl rfl (wp_run (v := .int .i64 (ox : Int)) (w' := w1) (xload rfl e124 ((hb1.cell (p := ⟨p, x, none⟩) hpl7).trans cx)) ⟨_, rfl, rfl, Below.refl _ w1⟩)
                · obtain rfl := Option.some.inj hi
                  have e16 : a.eval (.tmp 16) = .slice (some ⟨p, 0, none⟩) k k := eval_of ((hrest 16 (no_dst0 (by kernel_rfl))).trans rfl)
                  exact wpOp_of rfl rfl (wp_run (v := .slice (some ⟨p, 0, none⟩) k k) (w' := w1) (xmove rfl e16) ⟨_, rfl, rfl, Below.refl _ w1⟩)
                · obtain rfl := Option.some.inj hi
                  have e13 : a.eval (.tmp 13) = .int .i64 (y : Int) := eval_of ((hrest 13 (no_dst0 (by kernel_rfl))).trans rfl)
                  exact wpOp_of rfl rfl (wp_run (v := .int .i64 (y : Int)) (w' := w1) (xmove rfl e13) ⟨_, rfl, rfl, Below.refl _ w1⟩)
                · obtain rfl := Option.some.inj hi
                  obtain ⟨u126, h126, g126⟩ := hdep ⟨4, .data⟩ (by simp) rfl _ 126 rfl rfl
                  have g126 : u126 = .slice (some ⟨p, 0, none⟩) k k := g126
                  subst g126
                  have e126 := eval_of h126
                  obtain ⟨u127, h127, g127⟩ := hdep ⟨5, .data⟩ (by simp) rfl _ 127 rfl rfl
                  have g127 : u127 = .int .i64 (y : Int) := g127
                  subst g127
                  have e127 := eval_of h127
                  exact wpOp_of rfl rfl (wp_run (v := .pointer (some ⟨p, y, none⟩)) (w' := w1) (xindex rfl e126 e127 hyk) ⟨_, rfl, rfl, Below.refl _ w1⟩)
                · obtain rfl := Option.some.inj hi
                  obtain ⟨u128, h128, g128⟩ := hdep ⟨6, .data⟩ (by simp) rfl _ 128 rfl rfl
                  have g128 : u128 = .pointer (some ⟨p, y, none⟩) := g128
                  subst g128
                  have e128 := eval_of h128
                  exact wpOp_of rfl rfl (wp_run (v := .int .i64 (oy : Int)) (w' := w1) (xload rfl e128 ((hb1.cell (p := ⟨p, y, none⟩) hpl7).trans cy)) ⟨_, rfl, rfl, Below.refl _ w1⟩)
                · obtain rfl := Option.some.inj hi
                  obtain ⟨u125, h125, g125⟩ := hdep ⟨3, .data⟩ (by simp) rfl _ 125 rfl rfl
                  have g125 : u125 = .int .i64 (ox : Int) := g125
                  subst g125
                  have e125 := eval_of h125
                  obtain ⟨u129, h129, g129⟩ := hdep ⟨7, .data⟩ (by simp) rfl _ 129 rfl rfl
                  have g129 : u129 = .int .i64 (oy : Int) := g129
                  subst g129
                  have e129 := eval_of h129
                  exact wpOp_of rfl rfl (wp_run (v := .bool false) (w' := w1) ((xeqi rfl e125 e129).trans (by rw [e5])) ⟨_, rfl, rfl, Below.refl _ w1⟩)
                · obtain rfl := Option.some.inj hi
                  have e19 : a.eval (.tmp 19) = .bool true := eval_of ((hrest 19 (no_dst0 (by kernel_rfl))).trans rfl)
                  exact wpOp_of rfl rfl (wp_run (v := .bool true) (w' := w1) (xmove rfl e19) ⟨_, rfl, rfl, Below.refl _ w1⟩)
                · obtain rfl := Option.some.inj hi
                  obtain ⟨u131, h131, g131⟩ := hdep ⟨9, .data⟩ (by simp) rfl _ 131 rfl rfl
                  have g131 : u131 = .bool true := g131
                  subst g131
                  have e131 := eval_of h131
                  exact wpOp_of rfl rfl (wp_run (v := .bool true) (w' := w1) (xmove rfl e131) ⟨_, rfl, rfl, Below.refl _ w1⟩)
                · obtain rfl := Option.some.inj hi
                  obtain ⟨gu, gh, gg⟩ := hdep ⟨10, .guard⟩ (by simp) rfl _ 132 rfl rfl
                  have gg : gu = .bool true := gg
                  subst gg
                  have e20 : a.eval (.tmp 20) = .bool false := eval_of ((hrest 20 (no_dst0 (by kernel_rfl))).trans rfl)
                  exact wpOp_yes rfl rfl rfl rfl gh (wp_run (v := .bool false) (w' := w1) (xmove rfl e20) ⟨_, rfl, rfl, Below.refl _ w1⟩)
                · obtain rfl := Option.some.inj hi
                  obtain ⟨u132, h132, g132⟩ := hdep ⟨10, .data⟩ (by simp) rfl _ 132 rfl rfl
                  have g132 : u132 = .bool true := g132
                  subst g132
                  have e132 := eval_of h132
                  obtain ⟨u133, h133, g133⟩ := hdep ⟨11, .data⟩ (by simp) rfl _ 133 rfl rfl
                  have g133 : u133 = .bool false := g133
                  subst g133
                  have e133 := eval_of h133
                  exact wpOp_of rfl rfl (wp_run (v := .bool false) (w' := w1) (xpick rfl e132 e133 rfl) ⟨_, rfl, rfl, Below.refl _ w1⟩)
                · obtain rfl := Option.some.inj hi
                  obtain ⟨u130, h130, g130⟩ := hdep ⟨8, .data⟩ (by simp) rfl _ 130 rfl rfl
                  have g130 : u130 = .bool false := g130
                  subst g130
                  have e130 := eval_of h130
                  obtain ⟨u134, h134, g134⟩ := hdep ⟨12, .data⟩ (by simp) rfl _ 134 rfl rfl
                  have g134 : u134 = .bool false := g134
                  subst g134
                  have e134 := eval_of h134
                  exact wpOp_of rfl rfl (wp_run (v := .bool true) (w' := w1) (xeqb rfl e130 e134) ⟨_, rfl, rfl, Below.refl _ w1⟩)
                · obtain rfl := Option.some.inj hi
                  obtain ⟨u135, h135, g135⟩ := hdep ⟨13, .data⟩ (by simp) rfl _ 135 rfl rfl
                  have g135 : u135 = .bool true := g135
                  subst g135
                  have e135 := eval_of h135
                  exact wpOp_of rfl rfl (wp_run (v := .bool true) (w' := w1) (xmove rfl e135) ⟨_, rfl, rfl, Below.refl _ w1⟩)
                · obtain rfl := Option.some.inj hi
                  obtain ⟨gu, gh, gg⟩ := hdep ⟨14, .guard⟩ (by simp) rfl _ 136 rfl rfl
                  have gg : gu = .bool true := gg
                  subst gg
                  have e19 : a.eval (.tmp 19) = .bool true := eval_of ((hrest 19 (no_dst0 (by kernel_rfl))).trans rfl)
                  exact wpOp_yes rfl rfl rfl rfl gh (wp_run (v := .bool true) (w' := w1) (xmove rfl e19) ⟨_, rfl, rfl, Below.refl _ w1⟩)
                · obtain rfl := Option.some.inj hi
                  obtain ⟨gu, gh, gg⟩ := hdep ⟨14, .guard⟩ (by simp) rfl _ 136 rfl rfl
                  have gg : gu = .bool true := gg
                  subst gg
                  obtain ⟨u137, h137, g137⟩ := hdep ⟨15, .data⟩ (by simp) rfl _ 137 rfl rfl
                  have g137 : u137 = .bool true := g137
                  subst g137
                  have e137 := eval_of h137
                  exact wpOp_yes rfl rfl rfl rfl gh (wp_run (v := .bool false) (w' := w1) (xnot rfl e137) ⟨_, rfl, rfl, Below.refl _ w1⟩)
                · obtain rfl := Option.some.inj hi
                  obtain ⟨gu, gh, gg⟩ := hdep ⟨14, .guard⟩ (by simp) rfl _ 136 rfl rfl
                  have gg : gu = .bool true := gg
                  subst gg
                  obtain ⟨u138, h138, g138⟩ := hdep ⟨16, .data⟩ (by simp) rfl _ 138 rfl rfl
                  have g138 : u138 = .bool false := g138
                  subst g138
                  have e138 := eval_of h138
                  exact wpOp_yes rfl rfl rfl rfl gh (wp_run (v := .bool false) (w' := w1) (xmove rfl e138) ⟨_, rfl, rfl, Below.refl _ w1⟩)
                · obtain rfl := Option.some.inj hi
                  obtain ⟨gu, gh, gg⟩ := hdep ⟨17, .guard⟩ (by simp) rfl _ 139 rfl rfl
                  have gg : gu = .bool false := gg
                  subst gg
                  have e11 : a.eval (.tmp 11) = .slice (some ⟨gb, off, none⟩) k cg := eval_of ((hrest 11 (no_dst0 (by kernel_rfl))).trans rfl)
                  exact wpOp_yes rfl rfl rfl rfl gh (wp_run (v := .slice (some ⟨gb, off, none⟩) k cg) (w' := w1) (xmove rfl e11) ⟨_, rfl, rfl, Below.refl _ w1⟩)
                · obtain rfl := Option.some.inj hi
                  obtain ⟨gu, gh, gg⟩ := hdep ⟨17, .guard⟩ (by simp) rfl _ 139 rfl rfl
                  have gg : gu = .bool false := gg
                  subst gg
                  have e13 : a.eval (.tmp 13) = .int .i64 (y : Int) := eval_of ((hrest 13 (no_dst0 (by kernel_rfl))).trans rfl)
                  exact wpOp_yes rfl rfl rfl rfl gh (wp_run (v := .int .i64 (y : Int)) (w' := w1) (xmove rfl e13) ⟨_, rfl, rfl, Below.refl _ w1⟩)
                · obtain rfl := Option.some.inj hi
                  obtain ⟨gu, gh, gg⟩ := hdep ⟨17, .guard⟩ (by simp) rfl _ 139 rfl rfl
                  have gg : gu = .bool false := gg
                  subst gg
                  have e14 : a.eval (.tmp 14) = .int .i64 (z : Int) := eval_of ((hrest 14 (no_dst0 (by kernel_rfl))).trans rfl)
                  exact wpOp_yes rfl rfl rfl rfl gh (wp_run (v := .int .i64 (z : Int)) (w' := w1) (xmove rfl e14) ⟨_, rfl, rfl, Below.refl _ w1⟩)
                · obtain rfl := Option.some.inj hi
                  obtain ⟨gu, gh, gg⟩ := hdep ⟨17, .guard⟩ (by simp) rfl _ 139 rfl rfl
                  have gg : gu = .bool false := gg
                  subst gg
                  obtain ⟨u140, h140, g140⟩ := hdep ⟨18, .data⟩ (by simp) rfl _ 140 rfl rfl
                  have g140 : u140 = .slice (some ⟨gb, off, none⟩) k cg := g140
                  subst g140
                  have e140 := eval_of h140
                  obtain ⟨u141, h141, g141⟩ := hdep ⟨19, .data⟩ (by simp) rfl _ 141 rfl rfl
                  have g141 : u141 = .int .i64 (y : Int) := g141
                  subst g141
                  have e141 := eval_of h141
                  obtain ⟨u142, h142, g142⟩ := hdep ⟨20, .data⟩ (by simp) rfl _ 142 rfl rfl
                  have g142 : u142 = .int .i64 (z : Int) := g142
                  subst g142
                  have e142 := eval_of h142
                  exact wpOp_yes rfl rfl rfl rfl gh (wp_call3 _ _ Try.func12 (by decide) (by intro hh; cases hh) _ _ _ _ _ _ e140 e141 e142 _ rfl (HYZ.out w1 hb1) (fun w' hb => ⟨_, rfl, rfl, hb⟩))
                · obtain rfl := Option.some.inj hi
                  obtain ⟨gu, gh, gg⟩ := hdep ⟨17, .guard⟩ (by simp) rfl _ 139 rfl rfl
                  have gg : gu = .bool false := gg
                  subst gg
                  obtain ⟨u143, h143, g143⟩ := hdep ⟨21, .data⟩ (by simp) rfl _ 143 rfl rfl
                  have g143 : u143 = .bool false := g143
                  subst g143
                  have e143 := eval_of h143
                  exact wpOp_yes rfl rfl rfl rfl gh (wp_run (v := .bool true) (w' := w1) (xnot rfl e143) ⟨_, rfl, rfl, Below.refl _ w1⟩)
                · obtain rfl := Option.some.inj hi
                  obtain ⟨gu, gh, gg⟩ := hdep ⟨14, .guard⟩ (by simp) rfl _ 136 rfl rfl
                  have gg : gu = .bool true := gg
                  subst gg
                  obtain ⟨u139, h139, g139⟩ := hdep ⟨17, .data⟩ (by simp) rfl _ 139 rfl rfl
                  have g139 : u139 = .bool false := g139
                  subst g139
                  have e139 := eval_of h139
                  obtain ⟨u144, h144, g144⟩ := hdep ⟨22, .data⟩ (by simp) rfl _ 144 rfl rfl
                  have g144 : u144 = .bool true := g144
                  subst g144
                  have e144 := eval_of h144
                  exact wpOp_yes rfl rfl rfl rfl gh (wp_run (v := .bool true) (w' := w1) (xpick rfl e139 rfl e144) ⟨_, rfl, rfl, Below.refl _ w1⟩)
                · obtain rfl := Option.some.inj hi
                  obtain ⟨gu, gh, gg⟩ := hdep ⟨14, .guard⟩ (by simp) rfl _ 136 rfl rfl
                  have gg : gu = .bool true := gg
                  subst gg
                  obtain ⟨u145, h145, g145⟩ := hdep ⟨23, .data⟩ (by simp) rfl _ 145 rfl rfl
                  have g145 : u145 = .bool true := g145
                  subst g145
                  have e145 := eval_of h145
                  exact wpOp_yes rfl rfl rfl rfl gh (wp_run (v := .bool true) (w' := w1) (xmove rfl e145) ⟨_, rfl, rfl, Below.refl _ w1⟩)
                · obtain rfl := Option.some.inj hi
                  obtain ⟨gu, gh, gg⟩ := hdep ⟨24, .guard⟩ (by simp) rfl _ 146 rfl rfl
                  have gg : gu = .bool true := gg
                  subst gg
                  exact wpOp_no rfl rfl rfl rfl gh (by decide) ⟨_, rfl, rfl, Below.refl _ w1⟩
                · obtain rfl := Option.some.inj hi
                  obtain ⟨gu, gh, gg⟩ := hdep ⟨24, .guard⟩ (by simp) rfl _ 146 rfl rfl
                  have gg : gu = .bool true := gg
                  subst gg
                  exact wpOp_no rfl rfl rfl rfl gh (by decide) ⟨_, rfl, rfl, Below.refl _ w1⟩
                · obtain rfl := Option.some.inj hi
                  obtain ⟨gu, gh, gg⟩ := hdep ⟨24, .guard⟩ (by simp) rfl _ 146 rfl rfl
                  have gg : gu = .bool true := gg
                  subst gg
                  exact wpOp_no rfl rfl rfl rfl gh (by decide) ⟨_, rfl, rfl, Below.refl _ w1⟩
                · obtain rfl := Option.some.inj hi
                  obtain ⟨gu, gh, gg⟩ := hdep ⟨24, .guard⟩ (by simp) rfl _ 146 rfl rfl
                  have gg : gu = .bool true := gg
                  subst gg
                  exact wpOp_no rfl rfl rfl rfl gh (by decide) ⟨_, rfl, rfl, Below.refl _ w1⟩
                · obtain rfl := Option.some.inj hi
                  obtain ⟨gu, gh, gg⟩ := hdep ⟨14, .guard⟩ (by simp) rfl _ 136 rfl rfl
                  have gg : gu = .bool true := gg
                  subst gg
                  obtain ⟨u146, h146, g146⟩ := hdep ⟨24, .data⟩ (by simp) rfl _ 146 rfl rfl
                  have g146 : u146 = .bool true := g146
                  subst g146
                  have e146 := eval_of h146
                  obtain ⟨u150, h150, g150⟩ := hdep ⟨28, .data⟩ (by simp) rfl _ 150 rfl rfl
                  have g150 : u150 = undef := g150
                  subst g150
                  have e150 := eval_of h150
                  exact wpOp_yes rfl rfl rfl rfl gh (wp_run (v := .bool true) (w' := w1) (xpick rfl e146 rfl e150) ⟨_, rfl, rfl, Below.refl _ w1⟩)
                · obtain rfl := Option.some.inj hi
                  obtain ⟨u136, h136, g136⟩ := hdep ⟨14, .data⟩ (by simp) rfl _ 136 rfl rfl
                  have g136 : u136 = .bool true := g136
                  subst g136
                  have e136 := eval_of h136
                  obtain ⟨u151, h151, g151⟩ := hdep ⟨29, .data⟩ (by simp) rfl _ 151 rfl rfl
                  have g151 : u151 = .bool true := g151
                  subst g151
                  have e151 := eval_of h151
                  exact wpOp_of rfl rfl (wp_run (v := .bool true) (w' := w1) (xpick rfl e136 e151 rfl) ⟨_, rfl, rfl, Below.refl _ w1⟩)
                · obtain rfl := Option.some.inj hi
                  obtain ⟨u152, h152, g152⟩ := hdep ⟨30, .data⟩ (by simp) rfl _ 152 rfl rfl
                  have g152 : u152 = .bool true := g152
                  subst g152
                  have e152 := eval_of h152
                  exact wpOp_of rfl rfl (wp_run (v := .bool true) (w' := w1) (xmove rfl e152) ⟨_, rfl, rfl, Below.refl _ w1⟩)
                · obtain rfl := Option.some.inj hi
                  obtain ⟨gu, gh, gg⟩ := hdep ⟨31, .guard⟩ (by simp) rfl _ 153 rfl rfl
                  have gg : gu = .bool true := gg
                  subst gg
                  have e11 : a.eval (.tmp 11) = .slice (some ⟨gb, off, none⟩) k cg := eval_of ((hrest 11 (no_dst0 (by kernel_rfl))).trans rfl)
                  exact wpOp_yes rfl rfl rfl rfl gh (wp_run (v := .slice (some ⟨gb, off, none⟩) k cg) (w' := w1) (xmove rfl e11) ⟨_, rfl, rfl, Below.refl _ w1⟩)
                · obtain rfl := Option.some.inj hi
                  obtain ⟨gu, gh, gg⟩ := hdep ⟨31, .guard⟩ (by simp) rfl _ 153 rfl rfl
                  have gg : gu = .bool true := gg
                  subst gg
                  have e12 : a.eval (.tmp 12) = .int .i64 (x : Int) := eval_of ((hrest 12 (no_dst0 (by kernel_rfl))).trans rfl)
                  exact wpOp_yes rfl rfl rfl rfl gh (wp_run (v := .int .i64 (x : Int)) (w' := w1) (xmove rfl e12) ⟨_, rfl, rfl, Below.refl _ w1⟩)
                · obtain rfl := Option.some.inj hi
                  obtain ⟨gu, gh, gg⟩ := hdep ⟨31, .guard⟩ (by simp) rfl _ 153 rfl rfl
                  have gg : gu = .bool true := gg
                  subst gg
                  have e12 : a.eval (.tmp 12) = .int .i64 (x : Int) := eval_of ((hrest 12 (no_dst0 (by kernel_rfl))).trans rfl)
                  exact wpOp_yes rfl rfl rfl rfl gh (wp_run (v := .int .i64 (x : Int)) (w' := w1) (xmove rfl e12) ⟨_, rfl, rfl, Below.refl _ w1⟩)
                · obtain rfl := Option.some.inj hi
                  obtain ⟨gu, gh, gg⟩ := hdep ⟨31, .guard⟩ (by simp) rfl _ 153 rfl rfl
                  have gg : gu = .bool true := gg
                  subst gg
                  obtain ⟨u154, h154, g154⟩ := hdep ⟨32, .data⟩ (by simp) rfl _ 154 rfl rfl
                  have g154 : u154 = .slice (some ⟨gb, off, none⟩) k cg := g154
                  subst g154
                  have e154 := eval_of h154
                  obtain ⟨u155, h155, g155⟩ := hdep ⟨33, .data⟩ (by simp) rfl _ 155 rfl rfl
                  have g155 : u155 = .int .i64 (x : Int) := g155
                  subst g155
                  have e155 := eval_of h155
                  obtain ⟨u156, h156, g156⟩ := hdep ⟨34, .data⟩ (by simp) rfl _ 156 rfl rfl
                  have g156 : u156 = .int .i64 (x : Int) := g156
                  subst g156
                  have e156 := eval_of h156
                  exact wpOp_yes rfl rfl rfl rfl gh (wp_call3 _ _ Try.func12 (by decide) (by intro hh; cases hh) _ _ _ _ _ _ e154 e155 e156 _ rfl (HXX.out w1 hb1) (fun w' hb => ⟨_, rfl, rfl, hb⟩))
                · obtain rfl := Option.some.inj hi
                  obtain ⟨u153, h153, g153⟩ := hdep ⟨31, .data⟩ (by simp) rfl _ 153 rfl rfl
                  have g153 : u153 = .bool true := g153
                  subst g153
                  have e153 := eval_of h153
                  obtain ⟨u157, h157, g157⟩ := hdep ⟨35, .data⟩ (by simp) rfl _ 157 rfl rfl
                  have g157 : u157 = .bool true := g157
                  subst g157
                  have e157 := eval_of h157
                  exact wpOp_of rfl rfl (wp_run (v := .bool true) (w' := w1) (xpick rfl e153 e157 rfl) ⟨_, rfl, rfl, Below.refl _ w1⟩)
                · obtain rfl := Option.some.inj hi
                  obtain ⟨u158, h158, g158⟩ := hdep ⟨36, .data⟩ (by simp) rfl _ 158 rfl rfl
                  have g158 : u158 = .bool true := g158
                  subst g158
                  have e158 := eval_of h158
                  exact wpOp_of rfl rfl (wp_run (v := .bool true) (w' := w1) (xmove rfl e158) ⟨_, rfl, rfl, Below.refl _ w1⟩)
                · obtain rfl := Option.some.inj hi
                  obtain ⟨gu, gh, gg⟩ := hdep ⟨37, .guard⟩ (by simp) rfl _ 159 rfl rfl
                  have gg : gu = .bool true := gg
                  subst gg
                  have e11 : a.eval (.tmp 11) = .slice (some ⟨gb, off, none⟩) k cg := eval_of ((hrest 11 (no_dst0 (by kernel_rfl))).trans rfl)
                  exact wpOp_yes rfl rfl rfl rfl gh (wp_run (v := .slice (some ⟨gb, off, none⟩) k cg) (w' := w1) (xmove rfl e11) ⟨_, rfl, rfl, Below.refl _ w1⟩)
                · obtain rfl := Option.some.inj hi
                  obtain ⟨gu, gh, gg⟩ := hdep ⟨37, .guard⟩ (by simp) rfl _ 159 rfl rfl
                  have gg : gu = .bool true := gg
                  subst gg
                  have e12 : a.eval (.tmp 12) = .int .i64 (x : Int) := eval_of ((hrest 12 (no_dst0 (by kernel_rfl))).trans rfl)
                  exact wpOp_yes rfl rfl rfl rfl gh (wp_run (v := .int .i64 (x : Int)) (w' := w1) (xmove rfl e12) ⟨_, rfl, rfl, Below.refl _ w1⟩)
                · obtain rfl := Option.some.inj hi
                  obtain ⟨gu, gh, gg⟩ := hdep ⟨37, .guard⟩ (by simp) rfl _ 159 rfl rfl
                  have gg : gu = .bool true := gg
                  subst gg
                  have e11 : a.eval (.tmp 11) = .slice (some ⟨gb, off, none⟩) k cg := eval_of ((hrest 11 (no_dst0 (by kernel_rfl))).trans rfl)
                  exact wpOp_yes rfl rfl rfl rfl gh (wp_run (v := .slice (some ⟨gb, off, none⟩) k cg) (w' := w1) (xmove rfl e11) ⟨_, rfl, rfl, Below.refl _ w1⟩)
                · obtain rfl := Option.some.inj hi
                  obtain ⟨gu, gh, gg⟩ := hdep ⟨37, .guard⟩ (by simp) rfl _ 159 rfl rfl
                  have gg : gu = .bool true := gg
                  subst gg
                  obtain ⟨u162, h162, g162⟩ := hdep ⟨40, .data⟩ (by simp) rfl _ 162 rfl rfl
                  have g162 : u162 = .slice (some ⟨gb, off, none⟩) k cg := g162
                  subst g162
                  have e162 := eval_of h162
                  exact wpOp_yes rfl rfl rfl rfl gh (wp_run (v := .int .i64 (k : Int)) (w' := w1) (xlen rfl e162) ⟨_, rfl, rfl, Below.refl _ w1⟩)
                · obtain rfl := Option.some.inj hi
                  obtain ⟨gu, gh, gg⟩ := hdep ⟨37, .guard⟩ (by simp) rfl _ 159 rfl rfl
                  have gg : gu = .bool true := gg
                  subst gg
                  obtain ⟨u160, h160, g160⟩ := hdep ⟨38, .data⟩ (by simp) rfl _ 160 rfl rfl
                  have g160 : u160 = .slice (some ⟨gb, off, none⟩) k cg := g160
                  subst g160
                  have e160 := eval_of h160
                  obtain ⟨u161, h161, g161⟩ := hdep ⟨39, .data⟩ (by simp) rfl _ 161 rfl rfl
                  have g161 : u161 = .int .i64 (x : Int) := g161
                  subst g161
                  have e161 := eval_of h161
                  obtain ⟨u163, h163, g163⟩ := hdep ⟨41, .data⟩ (by simp) rfl _ 163 rfl rfl
                  have g163 : u163 = .int .i64 (k : Int) := g163
                  subst g163
                  have e163 := eval_of h163
                  exact wpOp_yes rfl rfl rfl rfl gh (wp_call3 _ _ Try.func12 (by decide) (by intro hh; cases hh) _ _ _ _ _ _ e160 e161 e163 _ rfl (HXK.out w1 hb1) (fun w' hb => ⟨_, rfl, rfl, hb⟩))
                · obtain rfl := Option.some.inj hi
                  obtain ⟨gu, gh, gg⟩ := hdep ⟨37, .guard⟩ (by simp) rfl _ 159 rfl rfl
                  have gg : gu = .bool true := gg
                  subst gg
                  obtain ⟨u164, h164, g164⟩ := hdep ⟨42, .data⟩ (by simp) rfl _ 164 rfl rfl
                  have g164 : u164 = .bool false := g164
                  subst g164
                  have e164 := eval_of h164
                  exact wpOp_yes rfl rfl rfl rfl gh (wp_run (v := .bool true) (w' := w1) (xnot rfl e164) ⟨_, rfl, rfl, Below.refl _ w1⟩)
                · obtain rfl := Option.some.inj hi
                  obtain ⟨u159, h159, g159⟩ := hdep ⟨37, .data⟩ (by simp) rfl _ 159 rfl rfl
                  have g159 : u159 = .bool true := g159
                  subst g159
                  have e159 := eval_of h159
                  obtain ⟨u165, h165, g165⟩ := hdep ⟨43, .data⟩ (by simp) rfl _ 165 rfl rfl
                  have g165 : u165 = .bool true := g165
                  subst g165
                  have e165 := eval_of h165
                  exact wpOp_of rfl rfl (wp_run (v := .bool true) (w' := w1) (xpick rfl e159 e165 rfl) ⟨_, rfl, rfl, Below.refl _ w1⟩)
                · obtain rfl := Option.some.inj hi
                  obtain ⟨u166, h166, g166⟩ := hdep ⟨44, .data⟩ (by simp) rfl _ 166 rfl rfl
                  have g166 : u166 = .bool true := g166
                  subst g166
                  have e166 := eval_of h166
                  exact wpOp_of rfl rfl (wp_run (v := .bool true) (w' := w1) (xmove rfl e166) ⟨_, rfl, rfl, Below.refl _ w1⟩)
                · obtain rfl := Option.some.inj hi
                  obtain ⟨gu, gh, gg⟩ := hdep ⟨45, .guard⟩ (by simp) rfl _ 167 rfl rfl
                  have gg : gu = .bool true := gg
                  subst gg
                  have e11 : a.eval (.tmp 11) = .slice (some ⟨gb, off, none⟩) k cg := eval_of ((hrest 11 (no_dst0 (by kernel_rfl))).trans rfl)
                  exact wpOp_yes rfl rfl rfl rfl gh (wp_run (v := .slice (some ⟨gb, off, none⟩) k cg) (w' := w1) (xmove rfl e11) ⟨_, rfl, rfl, Below.refl _ w1⟩)
                · obtain rfl := Option.some.inj hi
                  obtain ⟨gu, gh, gg⟩ := hdep ⟨45, .guard⟩ (by simp) rfl _ 167 rfl rfl
                  have gg : gu = .bool true := gg
                  subst gg
                  have e12 : a.eval (.tmp 12) = .int .i64 (x : Int) := eval_of ((hrest 12 (no_dst0 (by kernel_rfl))).trans rfl)
                  exact wpOp_yes rfl rfl rfl rfl gh (wp_run (v := .int .i64 (x : Int)) (w' := w1) (xmove rfl e12) ⟨_, rfl, rfl, Below.refl _ w1⟩)
                · obtain rfl := Option.some.inj hi
                  obtain ⟨gu, gh, gg⟩ := hdep ⟨45, .guard⟩ (by simp) rfl _ 167 rfl rfl
                  have gg : gu = .bool true := gg
                  subst gg
                  obtain ⟨u168, h168, g168⟩ := hdep ⟨46, .data⟩ (by simp) rfl _ 168 rfl rfl
                  have g168 : u168 = .slice (some ⟨gb, off, none⟩) k cg := g168
                  subst g168
                  have e168 := eval_of h168
                  obtain ⟨u169, h169, g169⟩ := hdep ⟨47, .data⟩ (by simp) rfl _ 169 rfl rfl
                  have g169 : u169 = .int .i64 (x : Int) := g169
                  subst g169
                  have e169 := eval_of h169
                  exact wpOp_yes rfl rfl rfl rfl gh (wp_call3 _ _ Try.func12 (by decide) (by intro hh; cases hh) _ _ _ _ _ _ e168 rfl e169 _ rfl (HMX.out w1 hb1) (fun w' hb => ⟨_, rfl, rfl, hb⟩))
                · obtain rfl := Option.some.inj hi
                  obtain ⟨gu, gh, gg⟩ := hdep ⟨45, .guard⟩ (by simp) rfl _ 167 rfl rfl
                  have gg : gu = .bool true := gg
                  subst gg
                  obtain ⟨u170, h170, g170⟩ := hdep ⟨48, .data⟩ (by simp) rfl _ 170 rfl rfl
                  have g170 : u170 = .bool false := g170
                  subst g170
                  have e170 := eval_of h170
                  exact wpOp_yes rfl rfl rfl rfl gh (wp_run (v := .bool true) (w' := w1) (xnot rfl e170) ⟨_, rfl, rfl, Below.refl _ w1⟩)
                · obtain rfl := Option.some.inj hi
                  obtain ⟨u167, h167, g167⟩ := hdep ⟨45, .data⟩ (by simp) rfl _ 167 rfl rfl
                  have g167 : u167 = .bool true := g167
                  subst g167
                  have e167 := eval_of h167
                  obtain ⟨u171, h171, g171⟩ := hdep ⟨49, .data⟩ (by simp) rfl _ 171 rfl rfl
                  have g171 : u171 = .bool true := g171
                  subst g171
                  have e171 := eval_of h171
                  exact wpOp_of rfl rfl (wp_run (v := .bool true) (w' := w1) (xpick rfl e167 e171 rfl) ⟨_, rfl, rfl, Below.refl _ w1⟩)
                · obtain rfl := Option.some.inj hi
                  obtain ⟨u172, h172, g172⟩ := hdep ⟨50, .data⟩ (by simp) rfl _ 172 rfl rfl
                  have g172 : u172 = .bool true := g172
                  subst g172
                  have e172 := eval_of h172
                  exact wpOp_of rfl rfl (wp_run (v := .bool true) (w' := w1) (xmove rfl e172) ⟨_, rfl, rfl, Below.refl _ w1⟩)
                · obtain rfl := Option.some.inj hi
                  obtain ⟨gu, gh, gg⟩ := hdep ⟨51, .guard⟩ (by simp) rfl _ 173 rfl rfl
                  have gg : gu = .bool true := gg
                  subst gg
                  exact wpOp_yes rfl rfl rfl rfl gh (wp_call0 _ _ Try.func14 (by decide) (by intro hh; cases hh) _ rfl (HAW.out w1 hb1) (fun w' hb => ⟨_, rfl, rfl, hb⟩))
                · obtain rfl := Option.some.inj hi
                  obtain ⟨u173, h173, g173⟩ := hdep ⟨51, .data⟩ (by simp) rfl _ 173 rfl rfl
                  have g173 : u173 = .bool true := g173
                  subst g173
                  have e173 := eval_of h173
                  obtain ⟨u174, h174, g174⟩ := hdep ⟨52, .data⟩ (by simp) rfl _ 174 rfl rfl
                  have g174 : u174 = .bool true := g174
                  subst g174
                  have e174 := eval_of h174
                  exact wpOp_of rfl rfl (wp_run (v := .bool true) (w' := w1) (xpick rfl e173 e174 rfl) ⟨_, rfl, rfl, Below.refl _ w1⟩)
                · obtain rfl := Option.some.inj hi
                  obtain ⟨u175, h175, g175⟩ := hdep ⟨53, .data⟩ (by simp) rfl _ 175 rfl rfl
                  have g175 : u175 = .bool true := g175
                  subst g175
                  have e175 := eval_of h175
                  exact wpOp_of rfl rfl (wp_run (v := .bool true) (w' := w1) (xassign rfl e175) ⟨_, rfl, rfl, Below.refl _ w1⟩)
              · intro listed a w2' h hr
                have hl := all_listed (by kernel_rfl) h.lsize hr
                obtain ⟨v', h4, hv⟩ := h.done 54 _ 10 rfl rfl (hl 54 (by decide))
                have hv : v' = .bool true := hv
                subst hv
                have hb := h.below
                have hdf : a.defers = [] := h.defers
                clear hl hr h
                refine hK9 _ _ (wp_ret ?_)
                show bodyPost Try.prog Try.f5 (fun e w' => e = .returned (.bool true) ∧ Below w.heap.size w w') Exit.ret a w2'
                exact bodyPost_ret (v := .bool true) (res_reach h4) hdf ⟨rfl, HB0.out _ hb⟩
            · have e5 : ((ox : Int) == (oy : Int)) = false := by simp; omega
              have e6 : decide (ox = oy) = false := decide_eq_false hne
              clear hne
              go_upto_region 22 with fail
              rename_i K9 hK9
              refine wp_region_typed (V := fun zq v _ => v = ([.slice (some ⟨p, 0, none⟩) k k, .int .i64 (x : Int), .pointer (some ⟨p, x, none⟩), .int .i64 (ox : Int), .slice (some ⟨p, 0, none⟩) k k, .int .i64 (y : Int), .pointer (some ⟨p, y, none⟩), .int .i64 (oy : Int), .bool false, .bool true, .bool true, .bool false, .bool false, .bool true, .bool true, .bool true, .bool false, .bool false, .slice (some ⟨gb, off, none⟩) k cg, .int .i64 (y : Int), .int .i64 (z : Int), .bool true, .bool false, .bool false, .bool false, .slice (some ⟨gb, off, none⟩) k cg, .int .i64 (x : Int), .int .i64 (z : Int), .bool true, .bool true, .bool true, .bool true, .slice (some ⟨gb, off, none⟩) k cg, .int .i64 (x : Int), .int .i64 (x : Int), .bool true, .bool true, .bool true, .slice (some ⟨gb, off, none⟩) k cg, .int .i64 (x : Int), .slice (some ⟨gb, off, none⟩) k cg, .int .i64 (k : Int), .bool false, .bool true, .bool true, .bool true, .slice (some ⟨gb, off, none⟩) k cg, .int .i64 (x : Int), .bool false, .bool true, .bool true, .bool true, .bool true, .bool true, .bool true] : List Value).getD zq undef) (by rfl) (fun z v w w' h hb => h) (by kernel_rfl) (dst_in (by kernel_rfl)) ?_ ?_
              · intro z0 o0 a w1 hi hb1 hrest hdep
                have hlt : z0 < 55 := (Array.getElem?_eq_some_iff.1 hi).1
                have ez : z0 = 0 ∨ z0 = 1 ∨ z0 = 2 ∨ z0 = 3 ∨ z0 = 4 ∨ z0 = 5 ∨ z0 = 6 ∨ z0 = 7 ∨ z0 = 8 ∨ z0 = 9 ∨ z0 = 10 ∨ z0 = 11 ∨ z0 = 12 ∨ z0 = 13 ∨ z0 = 14 ∨ z0 = 15 ∨ z0 = 16 ∨ z0 = 17 ∨ z0 = 18 ∨ z0 = 19 ∨ z0 = 20 ∨ z0 = 21 ∨ z0 = 22 ∨ z0 = 23 ∨ z0 = 24 ∨ z0 = 25 ∨ z0 = 26 ∨ z0 = 27 ∨ z0 = 28 ∨ z0 = 29 ∨ z0 = 30 ∨ z0 = 31 ∨ z0 = 32 ∨ z0 = 33 ∨ z0 = 34 ∨ z0 = 35 ∨ z0 = 36 ∨ z0 = 37 ∨ z0 = 38 ∨ z0 = 39 ∨ z0 = 40 ∨ z0 = 41 ∨ z0 = 42 ∨ z0 = 43 ∨ z0 = 44 ∨ z0 = 45 ∨ z0 = 46 ∨ z0 = 47 ∨ z0 = 48 ∨ z0 = 49 ∨ z0 = 50 ∨ z0 = 51 ∨ z0 = 52 ∨ z0 = 53 ∨ z0 = 54 := by omega
                rcases ez with rfl | rfl | rfl | rfl | rfl | rfl | rfl | rfl | rfl | rfl | rfl | rfl | rfl | rfl | rfl | rfl | rfl | rfl | rfl | rfl | rfl | rfl | rfl | rfl | rfl | rfl | rfl | rfl | rfl | rfl | rfl | rfl | rfl | rfl | rfl | rfl | rfl | rfl | rfl | rfl | rfl | rfl | rfl | rfl | rfl | rfl | rfl | rfl | rfl | rfl | rfl | rfl | rfl | rfl | rfl
                · obtain rfl := Option.some.inj hi
                  have e16 : a.eval (.tmp 16) = .slice (some ⟨p, 0, none⟩) k k := eval_of ((hrest 16 (no_dst0 (by kernel_rfl))).trans rfl)
                  exact wpOp_of rfl rfl (wp_run (v := .slice (some ⟨p, 0, none⟩) k k) (w' := w1) (xmove rfl e16) ⟨_, rfl, rfl, Below.refl _ w1⟩)
                · obtain rfl := Option.some.inj hi
                  have e12 : a.eval (.tmp 12) = .int .i64 (x : Int) := eval_of ((hrest 12 (no_dst0 (by kernel_rfl))).trans rfl)
                  exact wpOp_of rfl rfl (wp_run (v := .int .i64 (x : Int)) (w' := w1) (xmove rfl e12) ⟨_, rfl, rfl, Below.refl _ w1⟩)
                · obtain rfl := Option.some.inj hi
                  obtain ⟨u122, h122, g122⟩ := hdep ⟨0, .data⟩ (by simp) rfl _ 122 rfl rfl
                  have g122 : u122 = .slice (some ⟨p, 0, none⟩) k k := g122
                  subst g122
                  have e122 := eval_of h122
                  obtain ⟨u123, h123, g123⟩ := hdep ⟨1, .data⟩ (by simp) rfl _ 123 rfl rfl
                  have g123 : u123 = .int .i64 (x : Int) := g123
                  subst g123
                  have e123 := eval_of h123
                  exact wpOp_of rfl rfl (wp_run (v := .pointer (some ⟨p, x, none⟩)) (w' := w1) (xindex rfl e122 e123 hxk) ⟨_, rfl, rfl, Below.refl _ w1⟩)
                · obtain rfl := Option.some.inj hi
                  obtain ⟨u124, h124, g124⟩ := hdep ⟨2, .data⟩ (by simp) rfl _ 124 rfl rfl
                  have g124 : u124 = .pointer (some ⟨p, x, none⟩) := g124
                  subst g124
                  have e124 := eval_of h124
                  exact wpOp_of rfl rfl (wp_run (v := .int .i64 (ox : Int)) (w' := w1) (xload rfl e124 ((hb1.cell (p := ⟨p, x, none⟩) hpl7).trans cx)) ⟨_, rfl, rfl, Below.refl _ w1⟩)
                · obtain rfl := Option.some.inj hi
                  have e16 : a.eval (.tmp 16) = .slice (some ⟨p, 0, none⟩) k k := eval_of ((hrest 16 (no_dst0 (by kernel_rfl))).trans rfl)
                  exact wpOp_of rfl rfl (wp_run (v := .slice (some ⟨p, 0, none⟩) k k) (w' := w1) (xmove rfl e16) ⟨_, rfl, rfl, Below.refl _ w1⟩)
                · obtain rfl := Option.some.inj hi
                  have e13 : a.eval (.tmp 13) = .int .i64 (y : Int) := eval_of ((hrest 13 (no_dst0 (by kernel_rfl))).trans rfl)
                  exact wpOp_of rfl rfl (wp_run (v := .int .i64 (y : Int)) (w' := w1) (xmove rfl e13) ⟨_, rfl, rfl, Below.refl _ w1⟩)
                · obtain rfl := Option.some.inj hi
                  obtain ⟨u126, h126, g126⟩ := hdep ⟨4, .data⟩ (by simp) rfl _ 126 rfl rfl
                  have g126 : u126 = .slice (some ⟨p, 0, none⟩) k k := g126
                  subst g126
                  have e126 := eval_of h126
                  obtain ⟨u127, h127, g127⟩ := hdep ⟨5, .data⟩ (by simp) rfl _ 127 rfl rfl
                  have g127 : u127 = .int .i64 (y : Int) := g127
                  subst g127
                  have e127 := eval_of h127
                  exact wpOp_of rfl rfl (wp_run (v := .pointer (some ⟨p, y, none⟩)) (w' := w1) (xindex rfl e126 e127 hyk) ⟨_, rfl, rfl, Below.refl _ w1⟩)
                · obtain rfl := Option.some.inj hi
                  obtain ⟨u128, h128, g128⟩ := hdep ⟨6, .data⟩ (by simp) rfl _ 128 rfl rfl
                  have g128 : u128 = .pointer (some ⟨p, y, none⟩) := g128
                  subst g128
                  have e128 := eval_of h128
                  exact wpOp_of rfl rfl (wp_run (v := .int .i64 (oy : Int)) (w' := w1) (xload rfl e128 ((hb1.cell (p := ⟨p, y, none⟩) hpl7).trans cy)) ⟨_, rfl, rfl, Below.refl _ w1⟩)
                · obtain rfl := Option.some.inj hi
                  obtain ⟨u125, h125, g125⟩ := hdep ⟨3, .data⟩ (by simp) rfl _ 125 rfl rfl
                  have g125 : u125 = .int .i64 (ox : Int) := g125
                  subst g125
                  have e125 := eval_of h125
                  obtain ⟨u129, h129, g129⟩ := hdep ⟨7, .data⟩ (by simp) rfl _ 129 rfl rfl
                  have g129 : u129 = .int .i64 (oy : Int) := g129
                  subst g129
                  have e129 := eval_of h129
                  exact wpOp_of rfl rfl (wp_run (v := .bool false) (w' := w1) ((xeqi rfl e125 e129).trans (by rw [e5])) ⟨_, rfl, rfl, Below.refl _ w1⟩)
                · obtain rfl := Option.some.inj hi
                  have e19 : a.eval (.tmp 19) = .bool true := eval_of ((hrest 19 (no_dst0 (by kernel_rfl))).trans rfl)
                  exact wpOp_of rfl rfl (wp_run (v := .bool true) (w' := w1) (xmove rfl e19) ⟨_, rfl, rfl, Below.refl _ w1⟩)
                · obtain rfl := Option.some.inj hi
                  obtain ⟨u131, h131, g131⟩ := hdep ⟨9, .data⟩ (by simp) rfl _ 131 rfl rfl
                  have g131 : u131 = .bool true := g131
                  subst g131
                  have e131 := eval_of h131
                  exact wpOp_of rfl rfl (wp_run (v := .bool true) (w' := w1) (xmove rfl e131) ⟨_, rfl, rfl, Below.refl _ w1⟩)
                · obtain rfl := Option.some.inj hi
                  obtain ⟨gu, gh, gg⟩ := hdep ⟨10, .guard⟩ (by simp) rfl _ 132 rfl rfl
                  have gg : gu = .bool true := gg
                  subst gg
                  have e20 : a.eval (.tmp 20) = .bool false := eval_of ((hrest 20 (no_dst0 (by kernel_rfl))).trans rfl)
                  exact wpOp_yes rfl rfl rfl rfl gh (wp_run (v := .bool false) (w' := w1) (xmove rfl e20) ⟨_, rfl, rfl, Below.refl _ w1⟩)
                · obtain rfl := Option.some.inj hi
                  obtain ⟨u132, h132, g132⟩ := hdep ⟨10, .data⟩ (by simp) rfl _ 132 rfl rfl
                  have g132 : u132 = .bool true := g132
                  subst g132
                  have e132 := eval_of h132
                  obtain ⟨u133, h133, g133⟩ := hdep ⟨11, .data⟩ (by simp) rfl _ 133 rfl rfl
                  have g133 : u133 = .bool false := g133
                  subst g133
                  have e133 := eval_of h133
                  exact wpOp_of rfl rfl (wp_run (v := .bool false) (w' := w1) (xpick rfl e132 e133 rfl) ⟨_, rfl, rfl, Below.refl _ w1⟩)
                · obtain rfl := Option.some.inj hi
                  obtain ⟨u130, h130, g130⟩ := hdep ⟨8, .data⟩ (by simp) rfl _ 130 rfl rfl
                  have g130 : u130 = .bool false := g130
                  subst g130
                  have e130 := eval_of h130
                  obtain ⟨u134, h134, g134⟩ := hdep ⟨12, .data⟩ (by simp) rfl _ 134 rfl rfl
                  have g134 : u134 = .bool false := g134
                  subst g134
                  have e134 := eval_of h134
                  exact wpOp_of rfl rfl (wp_run (v := .bool true) (w' := w1) (xeqb rfl e130 e134) ⟨_, rfl, rfl, Below.refl _ w1⟩)
                · obtain rfl := Option.some.inj hi
                  obtain ⟨u135, h135, g135⟩ := hdep ⟨13, .data⟩ (by simp) rfl _ 135 rfl rfl
                  have g135 : u135 = .bool true := g135
                  subst g135
                  have e135 := eval_of h135
                  exact wpOp_of rfl rfl (wp_run (v := .bool true) (w' := w1) (xmove rfl e135) ⟨_, rfl, rfl, Below.refl _ w1⟩)
                · obtain rfl := Option.some.inj hi
                  obtain ⟨gu, gh, gg⟩ := hdep ⟨14, .guard⟩ (by simp) rfl _ 136 rfl rfl
                  have gg : gu = .bool true := gg
                  subst gg
                  have e19 : a.eval (.tmp 19) = .bool true := eval_of ((hrest 19 (no_dst0 (by kernel_rfl))).trans rfl)
                  exact wpOp_yes rfl rfl rfl rfl gh (wp_run (v := .bool true) (w' := w1) (xmove rfl e19) ⟨_, rfl, rfl, Below.refl _ w1⟩)
                · obtain rfl := Option.some.inj hi
                  obtain ⟨gu, gh, gg⟩ := hdep ⟨14, .guard⟩ (by simp) rfl _ 136 rfl rfl
                  have gg : gu = .bool true := gg
                  subst gg
                  obtain ⟨u137, h137, g137⟩ := hdep ⟨15, .data⟩ (by simp) rfl _ 137 rfl rfl
                  have g137 : u137 = .bool true := g137
                  subst g137
                  have e137 := eval_of h137
                  exact wpOp_yes rfl rfl rfl rfl gh (wp_run (v := .bool false) (w' := w1) (xnot rfl e137) ⟨_, rfl, rfl, Below.refl _ w1⟩)
                · obtain rfl := Option.some.inj hi
                  obtain ⟨gu, gh, gg⟩ := hdep ⟨14, .guard⟩ (by simp) rfl _ 136 rfl rfl
                  have gg : gu = .bool true := gg
                  subst gg
                  obtain ⟨u138, h138, g138⟩ := hdep ⟨16, .data⟩ (by simp) rfl _ 138 rfl rfl
                  have g138 : u138 = .bool false := g138
                  subst g138
                  have e138 := eval_of h138
                  exact wpOp_yes rfl rfl rfl rfl gh (wp_run (v := .bool false) (w' := w1) (xmove rfl e138) ⟨_, rfl, rfl, Below.refl _ w1⟩)
                · obtain rfl := Option.some.inj hi
                  obtain ⟨gu, gh, gg⟩ := hdep ⟨17, .guard⟩ (by simp) rfl _ 139 rfl rfl
                  have gg : gu = .bool false := gg
                  subst gg
                  have e11 : a.eval (.tmp 11) = .slice (some ⟨gb, off, none⟩) k cg := eval_of ((hrest 11 (no_dst0 (by kernel_rfl))).trans rfl)
                  exact wpOp_yes rfl rfl rfl rfl gh (wp_run (v := .slice (some ⟨gb, off, none⟩) k cg) (w' := w1) (xmove rfl e11) ⟨_, rfl, rfl, Below.refl _ w1⟩)
                · obtain rfl := Option.some.inj hi
                  obtain ⟨gu, gh, gg⟩ := hdep ⟨17, .guard⟩ (by simp) rfl _ 139 rfl rfl
                  have gg : gu = .bool false := gg
                  subst gg
                  have e13 : a.eval (.tmp 13) = .int .i64 (y : Int) := eval_of ((hrest 13 (no_dst0 (by kernel_rfl))).trans rfl)
                  exact wpOp_yes rfl rfl rfl rfl gh (wp_run (v := .int .i64 (y : Int)) (w' := w1) (xmove rfl e13) ⟨_, rfl, rfl, Below.refl _ w1⟩)
                · obtain rfl := Option.some.inj hi
                  obtain ⟨gu, gh, gg⟩ := hdep ⟨17, .guard⟩ (by simp) rfl _ 139 rfl rfl
                  have gg : gu = .bool false := gg
                  subst gg
                  have e14 : a.eval (.tmp 14) = .int .i64 (z : Int) := eval_of ((hrest 14 (no_dst0 (by kernel_rfl))).trans rfl)
                  exact wpOp_yes rfl rfl rfl rfl gh (wp_run (v := .int .i64 (z : Int)) (w' := w1) (xmove rfl e14) ⟨_, rfl, rfl, Below.refl _ w1⟩)
                · obtain rfl := Option.some.inj hi
                  obtain ⟨gu, gh, gg⟩ := hdep ⟨17, .guard⟩ (by simp) rfl _ 139 rfl rfl
                  have gg : gu = .bool false := gg
                  subst gg
                  obtain ⟨u140, h140, g140⟩ := hdep ⟨18, .data⟩ (by simp) rfl _ 140 rfl rfl
                  have g140 : u140 = .slice (some ⟨gb, off, none⟩) k cg := g140
                  subst g140
                  have e140 := eval_of h140
                  obtain ⟨u141, h141, g141⟩ := hdep ⟨19, .data⟩ (by simp) rfl _ 141 rfl rfl
                  have g141 : u141 = .int .i64 (y : Int) := g141
                  subst g141
                  have e141 := eval_of h141
                  obtain ⟨u142, h142, g142⟩ := hdep ⟨20, .data⟩ (by simp) rfl _ 142 rfl rfl
                  have g142 : u142 = .int .i64 (z : Int) := g142
                  subst g142
                  have e142 := eval_of h142
                  exact wpOp_yes rfl rfl rfl rfl gh (wp_call3 _ _ Try.func12 (by decide) (by intro hh; cases hh) _ _ _ _ _ _ e140 e141 e142 _ rfl (HYZ.out w1 hb1) (fun w' hb => ⟨_, rfl, rfl, hb⟩))
                · obtain rfl := Option.some.inj hi
                  obtain ⟨gu, gh, gg⟩ := hdep ⟨17, .guard⟩ (by simp) rfl _ 139 rfl rfl
                  have gg : gu = .bool false := gg
                  subst gg
                  obtain ⟨u143, h143, g143⟩ := hdep ⟨21, .data⟩ (by simp) rfl _ 143 rfl rfl
                  have g143 : u143 = .bool true := g143
                  subst g143
                  have e143 := eval_of h143
                  exact wpOp_yes rfl rfl rfl rfl gh (wp_run (v := .bool false) (w' := w1) (xnot rfl e143) ⟨_, rfl, rfl, Below.refl _ w1⟩)
                · obtain rfl := Option.some.inj hi
                  obtain ⟨gu, gh, gg⟩ := hdep ⟨14, .guard⟩ (by simp) rfl _ 136 rfl rfl
                  have gg : gu = .bool true := gg
                  subst gg
                  obtain ⟨u139, h139, g139⟩ := hdep ⟨17, .data⟩ (by simp) rfl _ 139 rfl rfl
                  have g139 : u139 = .bool false := g139
                  subst g139
                  have e139 := eval_of h139
                  obtain ⟨u144, h144, g144⟩ := hdep ⟨22, .data⟩ (by simp) rfl _ 144 rfl rfl
                  have g144 : u144 = .bool false := g144
                  subst g144
                  have e144 := eval_of h144
                  exact wpOp_yes rfl rfl rfl rfl gh (wp_run (v := .bool false) (w' := w1) (xpick rfl e139 rfl e144) ⟨_, rfl, rfl, Below.refl _ w1⟩)
                · obtain rfl := Option.some.inj hi
                  obtain ⟨gu, gh, gg⟩ := hdep ⟨14, .guard⟩ (by simp) rfl _ 136 rfl rfl
                  have gg : gu = .bool true := gg
                  subst gg
                  obtain ⟨u145, h145, g145⟩ := hdep ⟨23, .data⟩ (by simp) rfl _ 145 rfl rfl
                  have g145 : u145 = .bool false := g145
                  subst g145
                  have e145 := eval_of h145
                  exact wpOp_yes rfl rfl rfl rfl gh (wp_run (v := .bool false) (w' := w1) (xmove rfl e145) ⟨_, rfl, rfl, Below.refl _ w1⟩)
                · obtain rfl := Option.some.inj hi
                  obtain ⟨gu, gh, gg⟩ := hdep ⟨24, .guard⟩ (by simp) rfl _ 146 rfl rfl
                  have gg : gu = .bool false := gg
                  subst gg
                  have e11 : a.eval (.tmp 11) = .slice (some ⟨gb, off, none⟩) k cg := eval_of ((hrest 11 (no_dst0 (by kernel_rfl))).trans rfl)
                  exact wpOp_yes rfl rfl rfl rfl gh (wp_run (v := .slice (some ⟨gb, off, none⟩) k cg) (w' := w1) (xmove rfl e11) ⟨_, rfl, rfl, Below.refl _ w1⟩)
                · obtain rfl := Option.some.inj hi
                  obtain ⟨gu, gh, gg⟩ := hdep ⟨24, .guard⟩ (by simp) rfl _ 146 rfl rfl
                  have gg : gu = .bool false := gg
                  subst gg
                  have e12 : a.eval (.tmp 12) = .int .i64 (x : Int) := eval_of ((hrest 12 (no_dst0 (by kernel_rfl))).trans rfl)
                  exact wpOp_yes rfl rfl rfl rfl gh (wp_run (v := .int .i64 (x : Int)) (w' := w1) (xmove rfl e12) ⟨_, rfl, rfl, Below.refl _ w1⟩)
                · obtain rfl := Option.some.inj hi
                  obtain ⟨gu, gh, gg⟩ := hdep ⟨24, .guard⟩ (by simp) rfl _ 146 rfl rfl
                  have gg : gu = .bool false := gg
                  subst gg
                  have e14 : a.eval (.tmp 14) = .int .i64 (z : Int) := eval_of ((hrest 14 (no_dst0 (by kernel_rfl))).trans rfl)
                  exact wpOp_yes rfl rfl rfl rfl gh (wp_run (v := .int .i64 (z : Int)) (w' := w1) (xmove rfl e14) ⟨_, rfl, rfl, Below.refl _ w1⟩)
                · obtain rfl := Option.some.inj hi
                  obtain ⟨gu, gh, gg⟩ := hdep ⟨24, .guard⟩ (by simp) rfl _ 146 rfl rfl
                  have gg : gu = .bool false := gg
                  subst gg
                  obtain ⟨u147, h147, g147⟩ := hdep ⟨25, .data⟩ (by simp) rfl _ 147 rfl rfl
                  have g147 : u147 = .slice (some ⟨gb, off, none⟩) k cg := g147
                  subst g147
                  have e147 := eval_of h147
                  obtain ⟨u148, h148, g148⟩ := hdep ⟨26, .data⟩ (by simp) rfl _ 148 rfl rfl
                  have g148 : u148 = .int .i64 (x : Int) := g148
                  subst g148
                  have e148 := eval_of h148
                  obtain ⟨u149, h149, g149⟩ := hdep ⟨27, .data⟩ (by simp) rfl _ 149 rfl rfl
                  have g149 : u149 = .int .i64 (z : Int) := g149
                  subst g149
                  have e149 := eval_of h149
                  exact wpOp_yes rfl rfl rfl rfl gh (wp_call3 _ _ Try.func12 (by decide) (by intro hh; cases hh) _ _ _ _ _ _ e147 e148 e149 _ rfl (HXZ.out w1 hb1) (fun w' hb => ⟨_, rfl, rfl, hb⟩))
                · obtain rfl := Option.some.inj hi
                  obtain ⟨gu, gh, gg⟩ := hdep ⟨14, .guard⟩ (by simp) rfl _ 136 rfl rfl
                  have gg : gu = .bool true := gg
                  subst gg
                  obtain ⟨u146, h146, g146⟩ := hdep ⟨24, .data⟩ (by simp) rfl _ 146 rfl rfl
                  have g146 : u146 = .bool false := g146
                  subst g146
                  have e146 := eval_of h146
                  obtain ⟨u150, h150, g150⟩ := hdep ⟨28, .data⟩ (by simp) rfl _ 150 rfl rfl
                  have g150 : u150 = .bool true := g150
                  subst g150
                  have e150 := eval_of h150
                  exact wpOp_yes rfl rfl rfl rfl gh (wp_run (v := .bool true) (w' := w1) (xpick rfl e146 rfl e150) ⟨_, rfl, rfl, Below.refl _ w1⟩)
                · obtain rfl := Option.some.inj hi
                  obtain ⟨u136, h136, g136⟩ := hdep ⟨14, .data⟩ (by simp) rfl _ 136 rfl rfl
                  have g136 : u136 = .bool true := g136
                  subst g136
                  have e136 := eval_of h136
                  obtain ⟨u151, h151, g151⟩ := hdep ⟨29, .data⟩ (by simp) rfl _ 151 rfl rfl
                  have g151 : u151 = .bool true := g151
                  subst g151
                  have e151 := eval_of h151
                  exact wpOp_of rfl rfl (wp_run (v := .bool true) (w' := w1) (xpick rfl e136 e151 rfl) ⟨_, rfl, rfl, Below.refl _ w1⟩)
                · obtain rfl := Option.some.inj hi
                  obtain ⟨u152, h152, g152⟩ := hdep ⟨30, .data⟩ (by simp) rfl _ 152 rfl rfl
                  have g152 : u152 = .bool true := g152
                  subst g152
                  have e152 := eval_of h152
                  exact wpOp_of rfl rfl (wp_run (v := .bool true) (w' := w1) (xmove rfl e152) ⟨_, rfl, rfl, Below.refl _ w1⟩)
                · obtain rfl := Option.some.inj hi
                  obtain ⟨gu, gh, gg⟩ := hdep ⟨31, .guard⟩ (by simp) rfl _ 153 rfl rfl
                  have gg : gu = .bool true := gg
                  subst gg
                  have e11 : a.eval (.tmp 11) = .slice (some ⟨gb, off, none⟩) k cg := eval_of ((hrest 11 (no_dst0 (by kernel_rfl))).trans rfl)
                  exact wpOp_yes rfl rfl rfl rfl gh (wp_run (v := .slice (some ⟨gb, off, none⟩) k cg) (w' := w1) (xmove rfl e11) ⟨_, rfl, rfl, Below.refl _ w1⟩)
                · obtain rfl := Option.some.inj hi
                  obtain ⟨gu, gh, gg⟩ := hdep ⟨31, .guard⟩ (by simp) rfl _ 153 rfl rfl
                  have gg : gu = .bool true := gg
                  subst gg
                  have e12 : a.eval (.tmp 12) = .int .i64 (x : Int) := eval_of ((hrest 12 (no_dst0 (by kernel_rfl))).trans rfl)
                  exact wpOp_yes rfl rfl rfl rfl gh (wp_run (v := .int .i64 (x : Int)) (w' := w1) (xmove rfl e12) ⟨_, rfl, rfl, Below.refl _ w1⟩)
                · obtain rfl := Option.some.inj hi
                  obtain ⟨gu, gh, gg⟩ := hdep ⟨31, .guard⟩ (by simp) rfl _ 153 rfl rfl
                  have gg : gu = .bool true := gg
                  subst gg
                  have e12 : a.eval (.tmp 12) = .int .i64 (x : Int) := eval_of ((hrest 12 (no_dst0 (by kernel_rfl))).trans rfl)
                  exact wpOp_yes rfl rfl rfl rfl gh (wp_run (v := .int .i64 (x : Int)) (w' := w1) (xmove rfl e12) ⟨_, rfl, rfl, Below.refl _ w1⟩)
                · obtain rfl := Option.some.inj hi
                  obtain ⟨gu, gh, gg⟩ := hdep ⟨31, .guard⟩ (by simp) rfl _ 153 rfl rfl
                  have gg : gu = .bool true := gg
                  subst gg
                  obtain ⟨u154, h154, g154⟩ := hdep ⟨32, .data⟩ (by simp) rfl _ 154 rfl rfl
                  have g154 : u154 = .slice (some ⟨gb, off, none⟩) k cg := g154
                  subst g154
                  have e154 := eval_of h154
                  obtain ⟨u155, h155, g155⟩ := hdep ⟨33, .data⟩ (by simp) rfl _ 155 rfl rfl
                  have g155 : u155 = .int .i64 (x : Int) := g155
                  subst g155
                  have e155 := eval_of h155
                  obtain ⟨u156, h156, g156⟩ := hdep ⟨34, .data⟩ (by simp) rfl _ 156 rfl rfl
                  have g156 : u156 = .int .i64 (x : Int) := g156
                  subst g156
                  have e156 := eval_of h156
                  exact wpOp_yes rfl rfl rfl rfl gh (wp_call3 _ _ Try.func12 (by decide) (by intro hh; cases hh) _ _ _ _ _ _ e154 e155 e156 _ rfl (HXX.out w1 hb1) (fun w' hb => ⟨_, rfl, rfl, hb⟩))
                · obtain rfl := Option.some.inj hi
                  obtain ⟨u153, h153, g153⟩ := hdep ⟨31, .data⟩ (by simp) rfl _ 153 rfl rfl
                  have g153 : u153 = .bool true := g153
                  subst g153
                  have e153 := eval_of h153
                  obtain ⟨u157, h157, g157⟩ := hdep ⟨35, .data⟩ (by simp) rfl _ 157 rfl rfl
                  have g157 : u157 = .bool true := g157
                  subst g157
                  have e157 := eval_of h157
                  exact wpOp_of rfl rfl (wp_run (v := .bool true) (w' := w1) (xpick rfl e153 e157 rfl) ⟨_, rfl, rfl, Below.refl _ w1⟩)
                · obtain rfl := Option.some.inj hi
                  obtain ⟨u158, h158, g158⟩ := hdep ⟨36, .data⟩ (by simp) rfl _ 158 rfl rfl
                  have g158 : u158 = .bool true := g158
                  subst g158
                  have e158 := eval_of h158
                  exact wpOp_of rfl rfl (wp_run (v := .bool true) (w' := w1) (xmove rfl e158) ⟨_, rfl, rfl, Below.refl _ w1⟩)
                · obtain rfl := Option.some.inj hi
                  obtain ⟨gu, gh, gg⟩ := hdep ⟨37, .guard⟩ (by simp) rfl _ 159 rfl rfl
                  have gg : gu = .bool true := gg
                  subst gg
                  have e11 : a.eval (.tmp 11) = .slice (some ⟨gb, off, none⟩) k cg := eval_of ((hrest 11 (no_dst0 (by kernel_rfl))).trans rfl)
                  exact wpOp_yes rfl rfl rfl rfl gh (wp_run (v := .slice (some ⟨gb, off, none⟩) k cg) (w' := w1) (xmove rfl e11) ⟨_, rfl, rfl, Below.refl _ w1⟩)
                · obtain rfl := Option.some.inj hi
                  obtain ⟨gu, gh, gg⟩ := hdep ⟨37, .guard⟩ (by simp) rfl _ 159 rfl rfl
                  have gg : gu = .bool true := gg
                  subst gg
                  have e12 : a.eval (.tmp 12) = .int .i64 (x : Int) := eval_of ((hrest 12 (no_dst0 (by kernel_rfl))).trans rfl)
                  exact wpOp_yes rfl rfl rfl rfl gh (wp_run (v := .int .i64 (x : Int)) (w' := w1) (xmove rfl e12) ⟨_, rfl, rfl, Below.refl _ w1⟩)
                · obtain rfl := Option.some.inj hi
                  obtain ⟨gu, gh, gg⟩ := hdep ⟨37, .guard⟩ (by simp) rfl _ 159 rfl rfl
                  have gg : gu = .bool true := gg
                  subst gg
                  have e11 : a.eval (.tmp 11) = .slice (some ⟨gb, off, none⟩) k cg := eval_of ((hrest 11 (no_dst0 (by kernel_rfl))).trans rfl)
                  exact wpOp_yes rfl rfl rfl rfl gh (wp_run (v := .slice (some ⟨gb, off, none⟩) k cg) (w' := w1) (xmove rfl e11) ⟨_, rfl, rfl, Below.refl _ w1⟩)
                · obtain rfl := Option.some.inj hi
                  obtain ⟨gu, gh, gg⟩ := hdep ⟨37, .guard⟩ (by simp) rfl _ 159 rfl rfl
                  have gg : gu = .bool true := gg
                  subst gg
                  obtain ⟨u162, h162, g162⟩ := hdep ⟨40, .data⟩ (by simp) rfl _ 162 rfl rfl
                  have g162 : u162 = .slice (some ⟨gb, off, none⟩) k cg := g162
                  subst g162
                  have e162 := eval_of h162
                  exact wpOp_yes rfl rfl rfl rfl gh (wp_run (v := .int .i64 (k : Int)) (w' := w1) (xlen rfl e162) ⟨_, rfl, rfl, Below.refl _ w1⟩)
                · obtain rfl := Option.some.inj hi
                  obtain ⟨gu, gh, gg⟩ := hdep ⟨37, .guard⟩ (by simp) rfl _ 159 rfl rfl
                  have gg : gu = .bool true := gg
                  subst gg
                  obtain ⟨u160, h160, g160⟩ := hdep ⟨38, .data⟩ (by simp) rfl _ 160 rfl rfl
                  have g160 : u160 = .slice (some ⟨gb, off, none⟩) k cg := g160
                  subst g160
                  have e160 := eval_of h160
                  obtain ⟨u161, h161, g161⟩ := hdep ⟨39, .data⟩ (by simp) rfl _ 161 rfl rfl
                  have g161 : u161 = .int .i64 (x : Int) := g161
                  subst g161
                  have e161 := eval_of h161
                  obtain ⟨u163, h163, g163⟩ := hdep ⟨41, .data⟩ (by simp) rfl _ 163 rfl rfl
                  have g163 : u163 = .int .i64 (k : Int) := g163
                  subst g163
                  have e163 := eval_of h163
                  exact wpOp_yes rfl rfl rfl rfl gh (wp_call3 _ _ Try.func12 (by decide) (by intro hh; cases hh) _ _ _ _ _ _ e160 e161 e163 _ rfl (HXK.out w1 hb1) (fun w' hb => ⟨_, rfl, rfl, hb⟩))
                · obtain rfl := Option.some.inj hi
                  obtain ⟨gu, gh, gg⟩ := hdep ⟨37, .guard⟩ (by simp) rfl _ 159 rfl rfl
                  have gg : gu = .bool true := gg
                  subst gg
                  obtain ⟨u164, h164, g164⟩ := hdep ⟨42, .data⟩ (by simp) rfl _ 164 rfl rfl
                  have g164 : u164 = .bool false := g164
                  subst g164
                  have e164 := eval_of h164
                  exact wpOp_yes rfl rfl rfl rfl gh (wp_run (v := .bool true) (w' := w1) (xnot rfl e164) ⟨_, rfl, rfl, Below.refl _ w1⟩)
                · obtain rfl := Option.some.inj hi
                  obtain ⟨u159, h159, g159⟩ := hdep ⟨37, .data⟩ (by simp) rfl _ 159 rfl rfl
                  have g159 : u159 = .bool true := g159
                  subst g159
                  have e159 := eval_of h159
                  obtain ⟨u165, h165, g165⟩ := hdep ⟨43, .data⟩ (by simp) rfl _ 165 rfl rfl
                  have g165 : u165 = .bool true := g165
                  subst g165
                  have e165 := eval_of h165
                  exact wpOp_of rfl rfl (wp_run (v := .bool true) (w' := w1) (xpick rfl e159 e165 rfl) ⟨_, rfl, rfl, Below.refl _ w1⟩)
                · obtain rfl := Option.some.inj hi
                  obtain ⟨u166, h166, g166⟩ := hdep ⟨44, .data⟩ (by simp) rfl _ 166 rfl rfl
                  have g166 : u166 = .bool true := g166
                  subst g166
                  have e166 := eval_of h166
                  exact wpOp_of rfl rfl (wp_run (v := .bool true) (w' := w1) (xmove rfl e166) ⟨_, rfl, rfl, Below.refl _ w1⟩)
                · obtain rfl := Option.some.inj hi
                  obtain ⟨gu, gh, gg⟩ := hdep ⟨45, .guard⟩ (by simp) rfl _ 167 rfl rfl
                  have gg : gu = .bool true := gg
                  subst gg
                  have e11 : a.eval (.tmp 11) = .slice (some ⟨gb, off, none⟩) k cg := eval_of ((hrest 11 (no_dst0 (by kernel_rfl))).trans rfl)
                  exact wpOp_yes rfl rfl rfl rfl gh (wp_run (v := .slice (some ⟨gb, off, none⟩) k cg) (w' := w1) (xmove rfl e11) ⟨_, rfl, rfl, Below.refl _ w1⟩)
                · obtain rfl := Option.some.inj hi
                  obtain ⟨gu, gh, gg⟩ := hdep ⟨45, .guard⟩ (by simp) rfl _ 167 rfl rfl
                  have gg : gu = .bool true := gg
                  subst gg
                  have e12 : a.eval (.tmp 12) = .int .i64 (x : Int) := eval_of ((hrest 12 (no_dst0 (by kernel_rfl))).trans rfl)
                  exact wpOp_yes rfl rfl rfl rfl gh (wp_run (v := .int .i64 (x : Int)) (w' := w1) (xmove rfl e12) ⟨_, rfl, rfl, Below.refl _ w1⟩)
                · obtain rfl := Option.some.inj hi
                  obtain ⟨gu, gh, gg⟩ := hdep ⟨45, .guard⟩ (by simp) rfl _ 167 rfl rfl
                  have gg : gu = .bool true := gg
                  subst gg
                  obtain ⟨u168, h168, g168⟩ := hdep ⟨46, .data⟩ (by simp) rfl _ 168 rfl rfl
                  have g168 : u168 = .slice (some ⟨gb, off, none⟩) k cg := g168
                  subst g168
                  have e168 := eval_of h168
                  obtain ⟨u169, h169, g169⟩ := hdep ⟨47, .data⟩ (by simp) rfl _ 169 rfl rfl
                  have g169 : u169 = .int .i64 (x : Int) := g169
                  subst g169
                  have e169 := eval_of h169
                  exact wpOp_yes rfl rfl rfl rfl gh (wp_call3 _ _ Try.func12 (by decide) (by intro hh; cases hh) _ _ _ _ _ _ e168 rfl e169 _ rfl (HMX.out w1 hb1) (fun w' hb => ⟨_, rfl, rfl, hb⟩))
                · obtain rfl := Option.some.inj hi
                  obtain ⟨gu, gh, gg⟩ := hdep ⟨45, .guard⟩ (by simp) rfl _ 167 rfl rfl
                  have gg : gu = .bool true := gg
                  subst gg
                  obtain ⟨u170, h170, g170⟩ := hdep ⟨48, .data⟩ (by simp) rfl _ 170 rfl rfl
                  have g170 : u170 = .bool false := g170
                  subst g170
                  have e170 := eval_of h170
                  exact wpOp_yes rfl rfl rfl rfl gh (wp_run (v := .bool true) (w' := w1) (xnot rfl e170) ⟨_, rfl, rfl, Below.refl _ w1⟩)
                · obtain rfl := Option.some.inj hi
                  obtain ⟨u167, h167, g167⟩ := hdep ⟨45, .data⟩ (by simp) rfl _ 167 rfl rfl
                  have g167 : u167 = .bool true := g167
                  subst g167
                  have e167 := eval_of h167
                  obtain ⟨u171, h171, g171⟩ := hdep ⟨49, .data⟩ (by simp) rfl _ 171 rfl rfl
                  have g171 : u171 = .bool true := g171
                  subst g171
                  have e171 := eval_of h171
                  exact wpOp_of rfl rfl (wp_run (v := .bool true) (w' := w1) (xpick rfl e167 e171 rfl) ⟨_, rfl, rfl, Below.refl _ w1⟩)
                · obtain rfl := Option.some.inj hi
                  obtain ⟨u172, h172, g172⟩ := hdep ⟨50, .data⟩ (by simp) rfl _ 172 rfl rfl
                  have g172 : u172 = .bool true := g172
                  subst g172
                  have e172 := eval_of h172
                  exact wpOp_of rfl rfl (wp_run (v := .bool true) (w' := w1) (xmove rfl e172) ⟨_, rfl, rfl, Below.refl _ w1⟩)
                · obtain rfl := Option.some.inj hi
                  obtain ⟨gu, gh, gg⟩ := hdep ⟨51, .guard⟩ (by simp) rfl _ 173 rfl rfl
                  have gg : gu = .bool true := gg
                  subst gg
                  exact wpOp_yes rfl rfl rfl rfl gh (wp_call0 _ _ Try.func14 (by decide) (by intro hh; cases hh) _ rfl (HAW.out w1 hb1) (fun w' hb => ⟨_, rfl, rfl, hb⟩))
                · obtain rfl := Option.some.inj hi
                  obtain ⟨u173, h173, g173⟩ := hdep ⟨51, .data⟩ (by simp) rfl _ 173 rfl rfl
                  have g173 : u173 = .bool true := g173
                  subst g173
                  have e173 := eval_of h173
                  obtain ⟨u174, h174, g174⟩ := hdep ⟨52, .data⟩ (by simp) rfl _ 174 rfl rfl
                  have g174 : u174 = .bool true := g174
                  subst g174
                  have e174 := eval_of h174
                  exact wpOp_of rfl rfl (wp_run (v := .bool true) (w' := w1) (xpick rfl e173 e174 rfl) ⟨_, rfl, rfl, Below.refl _ w1⟩)
                · obtain rfl := Option.some.inj hi
                  obtain ⟨u175, h175, g175⟩ := hdep ⟨53, .data⟩ (by simp) rfl _ 175 rfl rfl
                  have g175 : u175 = .bool true := g175
                  subst g175
                  have e175 := eval_of h175
                  exact wpOp_of rfl rfl (wp_run (v := .bool true) (w' := w1) (xassign rfl e175) ⟨_, rfl, rfl, Below.refl _ w1⟩)
              · intro listed a w2' h hr
                have hl := all_listed (by kernel_rfl) h.lsize hr
                obtain ⟨v', h4, hv⟩ := h.done 54 _ 10 rfl rfl (hl 54 (by decide))
                have hv : v' = .bool true := hv
                subst hv
                have hb := h.below
                have hdf : a.defers = [] := h.defers
                clear hl hr h
                refine hK9 _ _ (wp_ret ?_)
                show bodyPost Try.prog Try.f5 (fun e w' => e = .returned (.bool true) ∧ Below w.heap.size w w') Exit.ret a w2'
                exact bodyPost_ret (v := .bool true) (res_reach h4) hdf ⟨rfl, HB0.out _ hb⟩
            · have e5 : ((ox : Int) == (oy : Int)) = true := by simp; omega
              have e6 : decide (ox = oy) = true := decide_eq_true heq
              clear heq
              go_upto_region 22 with fail
              rename_i K9 hK9
              refine wp_region_typed (V := fun zq v _ => v = ([.slice (some ⟨p, 0, none⟩) k k, .int .i64 (x : Int), .pointer (some ⟨p, x, none⟩), .int .i64 (ox : Int), .slice (some ⟨p, 0, none⟩) k k, .int .i64 (y : Int), .pointer (some ⟨p, y, none⟩), .int .i64 (oy : Int), .bool true, .bool true, .bool true, .bool true, .bool true, .bool true, .bool true, .bool true, .bool false, .bool false, .slice (some ⟨gb, off, none⟩) k cg, .int .i64 (y : Int), .int .i64 (z : Int), .bool false, .bool true, .bool true, .bool true, undef, undef, undef, undef, .bool true, .bool true, .bool true, .slice (some ⟨gb, off, none⟩) k cg, .int .i64 (x : Int), .int .i64 (x : Int), .bool true, .bool true, .bool true, .slice (some ⟨gb, off, none⟩) k cg, .int .i64 (x : Int), .slice (some ⟨gb, off, none⟩) k cg, .int .i64 (k : Int), .bool false, .bool true, .bool true, .bool true, .slice (some ⟨gb, off, none⟩) k cg, .int .i64 (x : Int), .bool false, .bool true, .bool true, .bool true, .bool true, .bool true, .bool true] : List Value).getD zq undef) (by rfl) (fun z v w w' h hb => h) (by kernel_rfl) (dst_in (by kernel_rfl)) ?_ ?_
              · intro z0 o0 a w1 hi hb1 hrest hdep
                have hlt : z0 < 55 := (Array.getElem?_eq_some_iff.1 hi).1
                have ez : z0 = 0 ∨ z0 = 1 ∨ z0 = 2 ∨ z0 = 3 ∨ z0 = 4 ∨ z0 = 5 ∨ z0 = 6 ∨ z0 = 7 ∨ z0 = 8 ∨ z0 = 9 ∨ z0 = 10 ∨ z0 = 11 ∨ z0 = 12 ∨ z0 = 13 ∨ z0 = 14 ∨ z0 = 15 ∨ z0 = 16 ∨ z0 = 17 ∨ z0 = 18 ∨ z0 = 19 ∨ z0 = 20 ∨ z0 = 21 ∨ z0 = 22 ∨ z0 = 23 ∨ z0 = 24 ∨ z0 = 25 ∨ z0 = 26 ∨ z0 = 27 ∨ z0 = 28 ∨ z0 = 29 ∨ z0 = 30 ∨ z0 = 31 ∨ z0 = 32 ∨ z0 = 33 ∨ z0 = 34 ∨ z0 = 35 ∨ z0 = 36 ∨ z0 = 37 ∨ z0 = 38 ∨ z0 = 39 ∨ z0 = 40 ∨ z0 = 41 ∨ z0 = 42 ∨ z0 = 43 ∨ z0 = 44 ∨ z0 = 45 ∨ z0 = 46 ∨ z0 = 47 ∨ z0 = 48 ∨ z0 = 49 ∨ z0 = 50 ∨ z0 = 51 ∨ z0 = 52 ∨ z0 = 53 ∨ z0 = 54 := by omega
                rcases ez with rfl | rfl | rfl | rfl | rfl | rfl | rfl | rfl | rfl | rfl | rfl | rfl | rfl | rfl | rfl | rfl | rfl | rfl | rfl | rfl | rfl | rfl | rfl | rfl | rfl | rfl | rfl | rfl | rfl | rfl | rfl | rfl | rfl | rfl | rfl | rfl | rfl | rfl | rfl | rfl | rfl | rfl | rfl | rfl | rfl | rfl | rfl | rfl | rfl | rfl | rfl | rfl | rfl | rfl | rfl
                · obtain rfl := Option.some.inj hi
                  have e16 : a.eval (.tmp 16) = .slice (some ⟨p, 0, none⟩) k k := eval_of ((hrest 16 (no_dst0 (by kernel_rfl))).trans rfl)
                  exact wpOp_of rfl rfl (wp_run (v := .slice (some ⟨p, 0, none⟩) k k) (w' := w1) (xmove rfl e16) ⟨_, rfl, rfl, Below.refl _ w1⟩)
                · obtain rfl := Option.some.inj hi
                  have e12 : a.eval (.tmp 12) = .int .i64 (x : Int) := eval_of ((hrest 12 (no_dst0 (by kernel_rfl))).trans rfl)
                  exact wpOp_of rfl rfl (wp_run (v := .int .i64 (x : Int)) (w' := w1) (xmove rfl e12) ⟨_, rfl, rfl, Below.refl _ w1⟩)
                · obtain rfl := Option.some.inj hi
                  obtain ⟨u122, h122, g122⟩ := hdep ⟨0, .data⟩ (by simp) rfl _ 122 rfl rfl
                  have g122 : u122 = .slice (some ⟨p, 0, none⟩) k k := g122
                  subst g122
                  have e122 := eval_of h122
                  obtain ⟨u123, h123, g123⟩ := hdep ⟨1, .data⟩ (by simp) rfl _ 123 rfl rfl
                  have g123 : u123 = .int .i64 (x : Int) := g123
                  subst g123
                  have e123 := eval_of h123
                  exact wpOp_of rfl rfl (wp_run (v := .pointer (some ⟨p, x, none⟩)) (w' := w1) (xindex rfl e122 e123 hxk) ⟨_, rfl, rfl, Below.refl _ w1⟩)
                · obtain rfl := Option.some.inj hi
                  obtain ⟨u124, h124, g124⟩ := hdep ⟨2, .data⟩ (by simp) rfl _ 124 rfl rfl
                  have g124 : u124 = .pointer (some ⟨p, x, none⟩) := g124
                  subst g124
                  have e124 := eval_of h124
                  exact wpOp_of rfl rfl (wp_run (v := .int .i64 (ox : Int)) (w' := w1) (xload rfl e124 ((hb1.cell (p := ⟨p, x, none⟩) hpl7).trans cx)) ⟨_, rfl, rfl, Below.refl _ w1⟩)
                · obtain rfl := Option.some.inj hi
                  have e16 : a.eval (.tmp 16) = .slice (some ⟨p, 0, none⟩) k k := eval_of ((hrest 16 (no_dst0 (by kernel_rfl))).trans rfl)
                  exact wpOp_of rfl rfl (wp_run (v := .slice (some ⟨p, 0, none⟩) k k) (w' := w1) (xmove rfl e16) ⟨_, rfl, rfl, Below.refl _ w1⟩)
                · obtain rfl := Option.some.inj hi
                  have e13 : a.eval (.tmp 13) = .int .i64 (y : Int) := eval_of ((hrest 13 (no_dst0 (by kernel_rfl))).trans rfl)
                  exact wpOp_of rfl rfl (wp_run (v := .int .i64 (y : Int)) (w' := w1) (xmove rfl e13) ⟨_, rfl, rfl, Below.refl _ w1⟩)
                · obtain rfl := Option.some.inj hi
                  obtain ⟨u126, h126, g126⟩ := hdep ⟨4, .data⟩ (by simp) rfl _ 126 rfl rfl
                  have g126 : u126 = .slice (some ⟨p, 0, none⟩) k k := g126
                  subst g126
                  have e126 := eval_of h126
                  obtain ⟨u127, h127, g127⟩ := hdep ⟨5, .data⟩ (by simp) rfl _ 127 rfl rfl
                  have g127 : u127 = .int .i64 (y : Int) := g127
                  subst g127
                  have e127 := eval_of h127
                  exact wpOp_of rfl rfl (wp_run (v := .pointer (some ⟨p, y, none⟩)) (w' := w1) (xindex rfl e126 e127 hyk) ⟨_, rfl, rfl, Below.refl _ w1⟩)
                · obtain rfl := Option.some.inj hi
                  obtain ⟨u128, h128, g128⟩ := hdep ⟨6, .data⟩ (by simp) rfl _ 128 rfl rfl
                  have g128 : u128 = .pointer (some ⟨p, y, none⟩) := g128
                  subst g128
                  have e128 := eval_of h128
                  exact wpOp_of rfl rfl (wp_run (v := .int .i64 (oy : Int)) (w' := w1) (xload rfl e128 ((hb1.cell (p := ⟨p, y, none⟩) hpl7).trans cy)) ⟨_, rfl, rfl, Below.refl _ w1⟩)
                · obtain rfl := Option.some.inj hi
                  obtain ⟨u125, h125, g125⟩ := hdep ⟨3, .data⟩ (by simp) rfl _ 125 rfl rfl
                  have g125 : u125 = .int .i64 (ox : Int) := g125
                  subst g125
                  have e125 := eval_of h125
                  obtain ⟨u129, h129, g129⟩ := hdep ⟨7, .data⟩ (by simp) rfl _ 129 rfl rfl
                  have g129 : u129 = .int .i64 (oy : Int) := g129
                  subst g129
                  have e129 := eval_of h129
                  exact wpOp_of rfl rfl (wp_run (v := .bool true) (w' := w1) ((xeqi rfl e125 e129).trans (by rw [e5])) ⟨_, rfl, rfl, Below.refl _ w1⟩)
                · obtain rfl := Option.some.inj hi
                  have e19 : a.eval (.tmp 19) = .bool true := eval_of ((hrest 19 (no_dst0 (by kernel_rfl))).trans rfl)
                  exact wpOp_of rfl rfl (wp_run (v := .bool true) (w' := w1) (xmove rfl e19) ⟨_, rfl, rfl, Below.refl _ w1⟩)
                · obtain rfl := Option.some.inj hi
                  obtain ⟨u131, h131, g131⟩ := hdep ⟨9, .data⟩ (by simp) rfl _ 131 rfl rfl
                  have g131 : u131 = .bool true := g131
                  subst g131
                  have e131 := eval_of h131
                  exact wpOp_of rfl rfl (wp_run (v := .bool true) (w' := w1) (xmove rfl e131) ⟨_, rfl, rfl, Below.refl _ w1⟩)
                · obtain rfl := Option.some.inj hi
                  obtain ⟨gu, gh, gg⟩ := hdep ⟨10, .guard⟩ (by simp) rfl _ 132 rfl rfl
                  have gg : gu = .bool true := gg
                  subst gg
                  have e20 : a.eval (.tmp 20) = .bool true := eval_of ((hrest 20 (no_dst0 (by kernel_rfl))).trans rfl)
                  exact wpOp_yes rfl rfl rfl rfl gh (wp_run (v := .bool true) (w' := w1) (xmove rfl e20) ⟨_, rfl, rfl, Below.refl _ w1⟩)
                · obtain rfl := Option.some.inj hi
                  obtain ⟨u132, h132, g132⟩ := hdep ⟨10, .data⟩ (by simp) rfl _ 132 rfl rfl
                  have g132 : u132 = .bool true := g132
                  subst g132
                  have e132 := eval_of h132
                  obtain ⟨u133, h133, g133⟩ := hdep ⟨11, .data⟩ (by simp) rfl _ 133 rfl rfl
                  have g133 : u133 = .bool true := g133
                  subst g133
                  have e133 := eval_of h133
                  exact wpOp_of rfl rfl (wp_run (v := .bool true) (w' := w1) (xpick rfl e132 e133 rfl) ⟨_, rfl, rfl, Below.refl _ w1⟩)
                · obtain rfl := Option.some.inj hi
                  obtain ⟨u130, h130, g130⟩ := hdep ⟨8, .data⟩ (by simp) rfl _ 130 rfl rfl
                  have g130 : u130 = .bool true := g130
                  subst g130
                  have e130 := eval_of h130
                  obtain ⟨u134, h134, g134⟩ := hdep ⟨12, .data⟩ (by simp) rfl _ 134 rfl rfl
                  have g134 : u134 = .bool true := g134
                  subst g134
                  have e134 := eval_of h134
                  exact wpOp_of rfl rfl (wp_run (v := .bool true) (w' := w1) (xeqb rfl e130 e134) ⟨_, rfl, rfl, Below.refl _ w1⟩)
                · obtain rfl := Option.some.inj hi
                  obtain ⟨u135, h135, g135⟩ := hdep ⟨13, .data⟩ (by simp) rfl _ 135 rfl rfl
                  have g135 : u135 = .bool true := g135
                  subst g135
                  have e135 := eval_of h135
                  exact wpOp_of rfl rfl (wp_run (v := .bool true) (w' := w1) (xmove rfl e135) ⟨_, rfl, rfl, Below.refl _ w1⟩)
                · obtain rfl := Option.some.inj hi
                  obtain ⟨gu, gh, gg⟩ := hdep ⟨14, .guard⟩ (by simp) rfl _ 136 rfl rfl
                  have gg : gu = .bool true := gg
                  subst gg
                  have e19 : a.eval (.tmp 19) = .bool true := eval_of ((hrest 19 (no_dst0 (by kernel_rfl))).trans rfl)
                  exact wpOp_yes rfl rfl rfl rfl gh (wp_run (v := .bool true) (w' := w1) (xmove rfl e19) ⟨_, rfl, rfl, Below.refl _ w1⟩)
                · obtain rfl := Option.some.inj hi
                  obtain ⟨gu, gh, gg⟩ := hdep ⟨14, .guard⟩ (by simp) rfl _ 136 rfl rfl
                  have gg : gu = .bool true := gg
                  subst gg
                  obtain ⟨u137, h137, g137⟩ := hdep ⟨15, .data⟩ (by simp) rfl _ 137 rfl rfl
                  have g137 : u137 = .bool true := g137
                  subst g137
                  have e137 := eval_of h137
                  exact wpOp_yes rfl rfl rfl rfl gh (wp_run (v := .bool false) (w' := w1) (xnot rfl e137) ⟨_, rfl, rfl, Below.refl _ w1⟩)
                · obtain rfl := Option.some.inj hi
                  obtain ⟨gu, gh, gg⟩ := hdep ⟨14, .guard⟩ (by simp) rfl _ 136 rfl rfl
                  have gg : gu = .bool true := gg
                  subst gg
                  obtain ⟨u138, h138, g138⟩ := hdep ⟨16, .data⟩ (by simp) rfl _ 138 rfl rfl
                  have g138 : u138 = .bool false := g138
                  subst g138
                  have e138 := eval_of h138
                  exact wpOp_yes rfl rfl rfl rfl gh (wp_run (v := .bool false) (w' := w1) (xmove rfl e138) ⟨_, rfl, rfl, Below.refl _ w1⟩)
                · obtain rfl := Option.some.inj hi
                  obtain ⟨gu, gh, gg⟩ := hdep ⟨17, .guard⟩ (by simp) rfl _ 139 rfl rfl
                  have gg : gu = .bool false := gg
                  subst gg
                  have e11 : a.eval (.tmp 11) = .slice (some ⟨gb, off, none⟩) k cg := eval_of ((hrest 11 (no_dst0 (by kernel_rfl))).trans rfl)
                  exact wpOp_yes rfl rfl rfl rfl gh (wp_run (v := .slice (some ⟨gb, off, none⟩) k cg) (w' := w1) (xmove rfl e11) ⟨_, rfl, rfl, Below.refl _ w1⟩)
                · obtain rfl := Option.some.inj hi
                  obtain ⟨gu, gh, gg⟩ := hdep ⟨17, .guard⟩ (by simp) rfl _ 139 rfl rfl
                  have gg : gu = .bool false := gg
                  subst gg
                  have e13 : a.eval (.tmp 13) = .int .i64 (y : Int) := eval_of ((hrest 13 (no_dst0 (by kernel_rfl))).trans rfl)
                  exact wpOp_yes rfl rfl rfl rfl gh (wp_run (v := .int .i64 (y : Int)) (w' := w1) (xmove rfl e13) ⟨_, rfl, rfl, Below.refl _ w1⟩)
                · obtain rfl := Option.some.inj hi
                  obtain ⟨gu, gh, gg⟩ := hdep ⟨17, .guard⟩ (by simp) rfl _ 139 rfl rfl
                  have gg : gu = .bool false := gg
                  subst gg
                  have e14 : a.eval (.tmp 14) = .int .i64 (z : Int) := eval_of ((hrest 14 (no_dst0 (by kernel_rfl))).trans rfl)
                  exact wpOp_yes rfl rfl rfl rfl gh (wp_run (v := .int .i64 (z : Int)) (w' := w1) (xmove rfl e14) ⟨_, rfl, rfl, Below.refl _ w1⟩)
                · obtain rfl := Option.some.inj hi
                  obtain ⟨gu, gh, gg⟩ := hdep ⟨17, .guard⟩ (by simp) rfl _ 139 rfl rfl
                  have gg : gu = .bool false := gg
                  subst gg
                  obtain ⟨u140, h140, g140⟩ := hdep ⟨18, .data⟩ (by simp) rfl _ 140 rfl rfl
                  have g140 : u140 = .slice (some ⟨gb, off, none⟩) k cg := g140
                  subst g140
                  have e140 := eval_of h140
                  obtain ⟨u141, h141, g141⟩ := hdep ⟨19, .data⟩ (by simp) rfl _ 141 rfl rfl
                  have g141 : u141 = .int .i64 (y : Int) := g141
                  subst g141
                  have e141 := eval_of h141
                  obtain ⟨u142, h142, g142⟩ := hdep ⟨20, .data⟩ (by simp) rfl _ 142 rfl rfl
                  have g142 : u142 = .int .i64 (z : Int) := g142
                  subst g142
                  have e142 := eval_of h142
                  exact wpOp_yes rfl rfl rfl rfl gh (wp_call3 _ _ Try.func12 (by decide) (by intro hh; cases hh) _ _ _ _ _ _ e140 e141 e142 _ rfl (HYZ.out w1 hb1) (fun w' hb => ⟨_, rfl, rfl, hb⟩))
                · obtain rfl := Option.some.inj hi
                  obtain ⟨gu, gh, gg⟩ := hdep ⟨17, .guard⟩ (by simp) rfl _ 139 rfl rfl
                  have gg : gu = .bool false := gg
                  subst gg
                  obtain ⟨u143, h143, g143⟩ := hdep ⟨21, .data⟩ (by simp) rfl _ 143 rfl rfl
                  have g143 : u143 = .bool false := g143
                  subst g143
                  have e143 := eval_of h143
                  exact wpOp_yes rfl rfl rfl rfl gh (wp_run (v := .bool true) (w' := w1) (xnot rfl e143) ⟨_, rfl, rfl, Below.refl _ w1⟩)
                · obtain rfl := Option.some.inj hi
                  obtain ⟨gu, gh, gg⟩ := hdep ⟨14, .guard⟩ (by simp) rfl _ 136 rfl rfl
                  have gg : gu = .bool true := gg
                  subst gg
                  obtain ⟨u139, h139, g139⟩ := hdep ⟨17, .data⟩ (by simp) rfl _ 139 rfl rfl
                  have g139 : u139 = .bool false := g139
                  subst g139
                  have e139 := eval_of h139
                  obtain ⟨u144, h144, g144⟩ := hdep ⟨22, .data⟩ (by simp) rfl _ 144 rfl rfl
                  have g144 : u144 = .bool true := g144
                  subst g144
                  have e144 := eval_of h144
                  exact wpOp_yes rfl rfl rfl rfl gh (wp_run (v := .bool true) (w' := w1) (xpick rfl e139 rfl e144) ⟨_, rfl, rfl, Below.refl _ w1⟩)
                · obtain rfl := Option.some.inj hi
                  obtain ⟨gu, gh, gg⟩ := hdep ⟨14, .guard⟩ (by simp) rfl _ 136 rfl rfl
                  have gg : gu = .bool true := gg
                  subst gg
                  obtain ⟨u145, h145, g145⟩ := hdep ⟨23, .data⟩ (by simp) rfl _ 145 rfl rfl
                  have g145 : u145 = .bool true := g145
                  subst g145
                  have e145 := eval_of h145
                  exact wpOp_yes rfl rfl rfl rfl gh (wp_run (v := .bool true) (w' := w1) (xmove rfl e145) ⟨_, rfl, rfl, Below.refl _ w1⟩)
                · obtain rfl := Option.some.inj hi
                  obtain ⟨gu, gh, gg⟩ := hdep ⟨24, .guard⟩ (by simp) rfl _ 146 rfl rfl
                  have gg : gu = .bool true := gg
                  subst gg
                  exact wpOp_no rfl rfl rfl rfl gh (by decide) ⟨_, rfl, rfl, Below.refl _ w1⟩
                · obtain rfl := Option.some.inj hi
                  obtain ⟨gu, gh, gg⟩ := hdep ⟨24, .guard⟩ (by simp) rfl _ 146 rfl rfl
                  have gg : gu = .bool true := gg
                  subst gg
                  exact wpOp_no rfl rfl rfl rfl gh (by decide) ⟨_, rfl, rfl, Below.refl _ w1⟩
                · obtain rfl := Option.some.inj hi
                  obtain ⟨gu, gh, gg⟩ := hdep ⟨24, .guard⟩ (by simp) rfl _ 146 rfl rfl
                  have gg : gu = .bool true := gg
                  subst gg
                  exact wpOp_no rfl rfl rfl rfl gh (by decide) ⟨_, rfl, rfl, Below.refl _ w1⟩
                · obtain rfl := Option.some.inj hi
                  obtain ⟨gu, gh, gg⟩ := hdep ⟨24, .guard⟩ (by simp) rfl _ 146 rfl rfl
                  have gg : gu = .bool true := gg
                  subst gg
                  exact wpOp_no rfl rfl rfl rfl gh (by decide) ⟨_, rfl, rfl, Below.refl _ w1⟩
                · obtain rfl := Option.some.inj hi
                  obtain ⟨gu, gh, gg⟩ := hdep ⟨14, .guard⟩ (by simp) rfl _ 136 rfl rfl
                  have gg : gu = .bool true := gg
                  subst gg
                  obtain ⟨u146, h146, g146⟩ := hdep ⟨24, .data⟩ (by simp) rfl _ 146 rfl rfl
                  have g146 : u146 = .bool true := g146
                  subst g146
                  have e146 := eval_of h146
                  obtain ⟨u150, h150, g150⟩ := hdep ⟨28, .data⟩ (by simp) rfl _ 150 rfl rfl
                  have g150 : u150 = undef := g150
                  subst g150
                  have e150 := eval_of h150
                  exact wpOp_yes rfl rfl rfl rfl gh (wp_run (v := .bool true) (w' := w1) (xpick rfl e146 rfl e150) ⟨_, rfl, rfl, Below.refl _ w1⟩)
                · obtain rfl := Option.some.inj hi
                  obtain ⟨u136, h136, g136⟩ := hdep ⟨14, .data⟩ (by simp) rfl _ 136 rfl rfl
                  have g136 : u136 = .bool true := g136
                  subst g136
                  have e136 := eval_of h136
                  obtain ⟨u151, h151, g151⟩ := hdep ⟨29, .data⟩ (by simp) rfl _ 151 rfl rfl
                  have g151 : u151 = .bool true := g151
                  subst g151
                  have e151 := eval_of h151
                  exact wpOp_of rfl rfl (wp_run (v := .bool true) (w' := w1) (xpick rfl e136 e151 rfl) ⟨_, rfl, rfl, Below.refl _ w1⟩)
                · obtain rfl := Option.some.inj hi
                  obtain ⟨u152, h152, g152⟩ := hdep ⟨30, .data⟩ (by simp) rfl _ 152 rfl rfl
                  have g152 : u152 = .bool true := g152
                  subst g152
                  have e152 := eval_of h152
                  exact wpOp_of rfl rfl (wp_run (v := .bool true) (w' := w1) (xmove rfl e152) ⟨_, rfl, rfl, Below.refl _ w1⟩)
                · obtain rfl := Option.some.inj hi
                  obtain ⟨gu, gh, gg⟩ := hdep ⟨31, .guard⟩ (by simp) rfl _ 153 rfl rfl
                  have gg : gu = .bool true := gg
                  subst gg
                  have e11 : a.eval (.tmp 11) = .slice (some ⟨gb, off, none⟩) k cg := eval_of ((hrest 11 (no_dst0 (by kernel_rfl))).trans rfl)
                  exact wpOp_yes rfl rfl rfl rfl gh (wp_run (v := .slice (some ⟨gb, off, none⟩) k cg) (w' := w1) (xmove rfl e11) ⟨_, rfl, rfl, Below.refl _ w1⟩)
                · obtain rfl := Option.some.inj hi
                  obtain ⟨gu, gh, gg⟩ := hdep ⟨31, .guard⟩ (by simp) rfl _ 153 rfl rfl
                  have gg : gu = .bool true := gg
                  subst gg
                  have e12 : a.eval (.tmp 12) = .int .i64 (x : Int) := eval_of ((hrest 12 (no_dst0 (by kernel_rfl))).trans rfl)
                  exact wpOp_yes rfl rfl rfl rfl gh (wp_run (v := .int .i64 (x : Int)) (w' := w1) (xmove rfl e12) ⟨_, rfl, rfl, Below.refl _ w1⟩)
                · obtain rfl := Option.some.inj hi
                  obtain ⟨gu, gh, gg⟩ := hdep ⟨31, .guard⟩ (by simp) rfl _ 153 rfl rfl
                  have gg : gu = .bool true := gg
                  subst gg
                  have e12 : a.eval (.tmp 12) = .int .i64 (x : Int) := eval_of ((hrest 12 (no_dst0 (by kernel_rfl))).trans rfl)
                  exact wpOp_yes rfl rfl rfl rfl gh (wp_run (v := .int .i64 (x : Int)) (w' := w1) (xmove rfl e12) ⟨_, rfl, rfl, Below.refl _ w1⟩)
                · obtain rfl := Option.some.inj hi
                  obtain ⟨gu, gh, gg⟩ := hdep ⟨31, .guard⟩ (by simp) rfl _ 153 rfl rfl
                  have gg : gu = .bool true := gg
                  subst gg
                  obtain ⟨u154, h154, g154⟩ := hdep ⟨32, .data⟩ (by simp) rfl _ 154 rfl rfl
                  have g154 : u154 = .slice (some ⟨gb, off, none⟩) k cg := g154
                  subst g154
                  have e154 := eval_of h154
                  obtain ⟨u155, h155, g155⟩ := hdep ⟨33, .data⟩ (by simp) rfl _ 155 rfl rfl
                  have g155 : u155 = .int .i64 (x : Int) := g155
                  subst g155
                  have e155 := eval_of h155
                  obtain ⟨u156, h156, g156⟩ := hdep ⟨34, .data⟩ (by simp) rfl _ 156 rfl rfl
                  have g156 : u156 = .int .i64 (x : Int) := g156
                  subst g156
                  have e156 := eval_of h156
                  exact wpOp_yes rfl rfl rfl rfl gh (wp_call3 _ _ Try.func12 (by decide) (by intro hh; cases hh) _ _ _ _ _ _ e154 e155 e156 _ rfl (HXX.out w1 hb1) (fun w' hb => ⟨_, rfl, rfl, hb⟩))
                · obtain rfl := Option.some.inj hi
                  obtain ⟨u153, h153, g153⟩ := hdep ⟨31, .data⟩ (by simp) rfl _ 153 rfl rfl
                  have g153 : u153 = .bool true := g153
                  subst g153
                  have e153 := eval_of h153
                  obtain ⟨u157, h157, g157⟩ := hdep ⟨35, .data⟩ (by simp) rfl _ 157 rfl rfl
                  have g157 : u157 = .bool true := g157
                  subst g157
                  have e157 := eval_of h157
                  exact wpOp_of rfl rfl (wp_run (v := .bool true) (w' := w1) (xpick rfl e153 e157 rfl) ⟨_, rfl, rfl, Below.refl _ w1⟩)
                · obtain rfl := Option.some.inj hi
                  obtain ⟨u158, h158, g158⟩ := hdep ⟨36, .data⟩ (by simp) rfl _ 158 rfl rfl
                  have g158 : u158 = .bool true := g158
                  subst g158
                  have e158 := eval_of h158
                  exact wpOp_of rfl rfl (wp_run (v := .bool true) (w' := w1) (xmove rfl e158) ⟨_, rfl, rfl, Below.refl _ w1⟩)
                · obtain rfl := Option.some.inj hi
                  obtain ⟨gu, gh, gg⟩ := hdep ⟨37, .guard⟩ (by simp) rfl _ 159 rfl rfl
                  have gg : gu = .bool true := gg
                  subst gg
                  have e11 : a.eval (.tmp 11) = .slice (some ⟨gb, off, none⟩) k cg := eval_of ((hrest 11 (no_dst0 (by kernel_rfl))).trans rfl)
                  exact wpOp_yes rfl rfl rfl rfl gh (wp_run (v := .slice (some ⟨gb, off, none⟩) k cg) (w' := w1) (xmove rfl e11) ⟨_, rfl, rfl, Below.refl _ w1⟩)
                · obtain rfl := Option.some.inj hi
                  obtain ⟨gu, gh, gg⟩ := hdep ⟨37, .guard⟩ (by simp) rfl _ 159 rfl rfl
                  have gg : gu = .bool true := gg
                  subst gg
                  have e12 : a.eval (.tmp 12) = .int .i64 (x : Int) := eval_of ((hrest 12 (no_dst0 (by kernel_rfl))).trans rfl)
                  exact wpOp_yes rfl rfl rfl rfl gh (wp_run (v := .int .i64 (x : Int)) (w' := w1) (xmove rfl e12) ⟨_, rfl, rfl, Below.refl _ w1⟩)
                · obtain rfl := Option.some.inj hi
                  obtain ⟨gu, gh, gg⟩ := hdep ⟨37, .guard⟩ (by simp) rfl _ 159 rfl rfl
                  have gg : gu = .bool true := gg
                  subst gg
                  have e11 : a.eval (.tmp 11) = .slice (some ⟨gb, off, none⟩) k cg := eval_of ((hrest 11 (no_dst0 (by kernel_rfl))).trans rfl)
                  exact wpOp_yes rfl rfl rfl rfl gh (wp_run (v := .slice (some ⟨gb, off, none⟩) k cg) (w' := w1) (xmove rfl e11) ⟨_, rfl, rfl, Below.refl _ w1⟩)
                · obtain rfl := Option.some.inj hi
                  obtain ⟨gu, gh, gg⟩ := hdep ⟨37, .guard⟩ (by simp) rfl _ 159 rfl rfl
                  have gg : gu = .bool true := gg
                  subst gg
                  obtain ⟨u162, h162, g162⟩ := hdep ⟨40, .data⟩ (by simp) rfl _ 162 rfl rfl
                  have g162 : u162 = .slice (some ⟨gb, off, none⟩) k cg := g162
                  subst g162
                  have e162 := eval_of h162
                  exact wpOp_yes rfl rfl rfl rfl gh (wp_run (v := .int .i64 (k : Int)) (w' := w1) (xlen rfl e162) ⟨_, rfl, rfl, Below.refl _ w1⟩)
                · obtain rfl := Option.some.inj hi
                  obtain ⟨gu, gh, gg⟩ := hdep ⟨37, .guard⟩ (by simp) rfl _ 159 rfl rfl
                  have gg : gu = .bool true := gg
                  subst gg
                  obtain ⟨u160, h160, g160⟩ := hdep ⟨38, .data⟩ (by simp) rfl _ 160 rfl rfl
                  have g160 : u160 = .slice (some ⟨gb, off, none⟩) k cg := g160
                  subst g160
                  have e160 := eval_of h160
                  obtain ⟨u161, h161, g161⟩ := hdep ⟨39, .data⟩ (by simp) rfl _ 161 rfl rfl
                  have g161 : u161 = .int .i64 (x : Int) := g161
                  subst g161
                  have e161 := eval_of h161
                  obtain ⟨u163, h163, g163⟩ := hdep ⟨41, .data⟩ (by simp) rfl _ 163 rfl rfl
                  have g163 : u163 = .int .i64 (k : Int) := g163
                  subst g163
                  have e163 := eval_of h163
                  exact wpOp_yes rfl rfl rfl rfl gh (wp_call3 _ _ Try.func12 (by decide) (by intro hh; cases hh) _ _ _ _ _ _ e160 e161 e163 _ rfl (HXK.out w1 hb1) (fun w' hb => ⟨_, rfl, rfl, hb⟩))
                · obtain rfl := Option.some.inj hi
                  obtain ⟨gu, gh, gg⟩ := hdep ⟨37, .guard⟩ (by simp) rfl _ 159 rfl rfl
                  have gg : gu = .bool true := gg
                  subst gg
                  obtain ⟨u164, h164, g164⟩ := hdep ⟨42, .data⟩ (by simp) rfl _ 164 rfl rfl
                  have g164 : u164 = .bool false := g164
                  subst g164
                  have e164 := eval_of h164
                  exact wpOp_yes rfl rfl rfl rfl gh (wp_run (v := .bool true) (w' := w1) (xnot rfl e164) ⟨_, rfl, rfl, Below.refl _ w1⟩)
                · obtain rfl := Option.some.inj hi
                  obtain ⟨u159, h159, g159⟩ := hdep ⟨37, .data⟩ (by simp) rfl _ 159 rfl rfl
                  have g159 : u159 = .bool true := g159
                  subst g159
                  have e159 := eval_of h159
                  obtain ⟨u165, h165, g165⟩ := hdep ⟨43, .data⟩ (by simp) rfl _ 165 rfl rfl
                  have g165 : u165 = .bool true := g165
                  subst g165
                  have e165 := eval_of h165
                  exact wpOp_of rfl rfl (wp_run (v := .bool true) (w' := w1) (xpick rfl e159 e165 rfl) ⟨_, rfl, rfl, Below.refl _ w1⟩)
                · obtain rfl := Option.some.inj hi
                  obtain ⟨u166, h166, g166⟩ := hdep ⟨44, .data⟩ (by simp) rfl _ 166 rfl rfl
                  have g166 : u166 = .bool true := g166
                  subst g166
                  have e166 := eval_of h166
                  exact wpOp_of rfl rfl (wp_run (v := .bool true) (w' := w1) (xmove rfl e166) ⟨_, rfl, rfl, Below.refl _ w1⟩)
                · obtain rfl := Option.some.inj hi
                  obtain ⟨gu, gh, gg⟩ := hdep ⟨45, .guard⟩ (by simp) rfl _ 167 rfl rfl
                  have gg : gu = .bool true := gg
                  subst gg
                  have e11 : a.eval (.tmp 11) = .slice (some ⟨gb, off, none⟩) k cg := eval_of ((hrest 11 (no_dst0 (by kernel_rfl))).trans rfl)
                  exact wpOp_yes rfl rfl rfl rfl gh (wp_run (v := .slice (some ⟨gb, off, none⟩) k cg) (w' := w1) (xmove rfl e11) ⟨_, rfl, rfl, Below.refl _ w1⟩)
                · obtain rfl := Option.some.inj hi
                  obtain ⟨gu, gh, gg⟩ := hdep ⟨45, .guard⟩ (by simp) rfl _ 167 rfl rfl
                  have gg : gu = .bool true := gg
                  subst gg
                  have e12 : a.eval (.tmp 12) = .int .i64 (x : Int) := eval_of ((hrest 12 (no_dst0 (by kernel_rfl))).trans rfl)
                  exact wpOp_yes rfl rfl rfl rfl gh (wp_run (v := .int .i64 (x : Int)) (w' := w1) (xmove rfl e12) ⟨_, rfl, rfl, Below.refl _ w1⟩)
                · obtain rfl := Option.some.inj hi
                  obtain ⟨gu, gh, gg⟩ := hdep ⟨45, .guard⟩ (by simp) rfl _ 167 rfl rfl
                  have gg : gu = .bool true := gg
                  subst gg
                  obtain ⟨u168, h168, g168⟩ := hdep ⟨46, .data⟩ (by simp) rfl _ 168 rfl rfl
                  have g168 : u168 = .slice (some ⟨gb, off, none⟩) k cg := g168
                  subst g168
                  have e168 := eval_of h168
                  obtain ⟨u169, h169, g169⟩ := hdep ⟨47, .data⟩ (by simp) rfl _ 169 rfl rfl
                  have g169 : u169 = .int .i64 (x : Int) := g169
                  subst g169
                  have e169 := eval_of h169
                  exact wpOp_yes rfl rfl rfl rfl gh (wp_call3 _ _ Try.func12 (by decide) (by intro hh; cases hh) _ _ _ _ _ _ e168 rfl e169 _ rfl (HMX.out w1 hb1) (fun w' hb => ⟨_, rfl, rfl, hb⟩))
                · obtain rfl := Option.some.inj hi
                  obtain ⟨gu, gh, gg⟩ := hdep ⟨45, .guard⟩ (by simp) rfl _ 167 rfl rfl
                  have gg : gu = .bool true := gg
                  subst gg
                  obtain ⟨u170, h170, g170⟩ := hdep ⟨48, .data⟩ (by simp) rfl _ 170 rfl rfl
                  have g170 : u170 = .bool false := g170
                  subst g170
                  have e170 := eval_of h170
                  exact wpOp_yes rfl rfl rfl rfl gh (wp_run (v := .bool true) (w' := w1) (xnot rfl e170) ⟨_, rfl, rfl, Below.refl _ w1⟩)
                · obtain rfl := Option.some.inj hi
                  obtain ⟨u167, h167, g167⟩ := hdep ⟨45, .data⟩ (by simp) rfl _ 167 rfl rfl
                  have g167 : u167 = .bool true := g167
                  subst g167
                  have e167 := eval_of h167
                  obtain ⟨u171, h171, g171⟩ := hdep ⟨49, .data⟩ (by simp) rfl _ 171 rfl rfl
                  have g171 : u171 = .bool true := g171
                  subst g171
                  have e171 := eval_of h171
                  exact wpOp_of rfl rfl (wp_run (v := .bool true) (w' := w1) (xpick rfl e167 e171 rfl) ⟨_, rfl, rfl, Below.refl _ w1⟩)
                · obtain rfl := Option.some.inj hi
                  obtain ⟨u172, h172, g172⟩ := hdep ⟨50, .data⟩ (by simp) rfl _ 172 rfl rfl
                  have g172 : u172 = .bool true := g172
                  subst g172
                  have e172 := eval_of h172
                  exact wpOp_of rfl rfl (wp_run (v := .bool true) (w' := w1) (xmove rfl e172) ⟨_, rfl, rfl, Below.refl _ w1⟩)
                · obtain rfl := Option.some.inj hi
                  obtain ⟨gu, gh, gg⟩ := hdep ⟨51, .guard⟩ (by simp) rfl _ 173 rfl rfl
                  have gg : gu = .bool true := gg
                  subst gg
                  exact wpOp_yes rfl rfl rfl rfl gh (wp_call0 _ _ Try.func14 (by decide) (by intro hh; cases hh) _ rfl (HAW.out w1 hb1) (fun w' hb => ⟨_, rfl, rfl, hb⟩))
                · obtain rfl := Option.some.inj hi
                  obtain ⟨u173, h173, g173⟩ := hdep ⟨51, .data⟩ (by simp) rfl _ 173 rfl rfl
                  have g173 : u173 = .bool true := g173
                  subst g173
                  have e173 := eval_of h173
                  obtain ⟨u174, h174, g174⟩ := hdep ⟨52, .data⟩ (by simp) rfl _ 174 rfl rfl
                  have g174 : u174 = .bool true := g174
                  subst g174
                  have e174 := eval_of h174
                  exact wpOp_of rfl rfl (wp_run (v := .bool true) (w' := w1) (xpick rfl e173 e174 rfl) ⟨_, rfl, rfl, Below.refl _ w1⟩)
                · obtain rfl := Option.some.inj hi
                  obtain ⟨u175, h175, g175⟩ := hdep ⟨53, .data⟩ (by simp) rfl _ 175 rfl rfl
                  have g175 : u175 = .bool true := g175
                  subst g175
                  have e175 := eval_of h175
                  exact wpOp_of rfl rfl (wp_run (v := .bool true) (w' := w1) (xassign rfl e175) ⟨_, rfl, rfl, Below.refl _ w1⟩)
              · intro listed a w2' h hr
                have hl := all_listed (by kernel_rfl) h.lsize hr
                obtain ⟨v', h4, hv⟩ := h.done 54 _ 10 rfl rfl (hl 54 (by decide))
                have hv : v' = .bool true := hv
                subst hv
                have hb := h.below
                have hdf : a.defers = [] := h.defers
                clear hl hr h
                refine hK9 _ _ (wp_ret ?_)
                show bodyPost Try.prog Try.f5 (fun e w' => e = .returned (.bool true) ∧ Below w.heap.size w w') Exit.ret a w2'
                exact bodyPost_ret (v := .bool true) (res_reach h4) hdf ⟨rfl, HB0.out _ hb⟩
            · have e5 : ((ox : Int) == (oy : Int)) = true := by simp; omega
              have e6 : decide (ox = oy) = true := decide_eq_true heq
              clear heq
              go_upto_region 22 with fail
              rename_i K9 hK9
              refine wp_region_typed (V := fun zq v _ => v = ([.slice (some ⟨p, 0, none⟩) k k, .int .i64 (x : Int), .pointer (some ⟨p, x, none⟩), .int .i64 (ox : Int), .slice (some ⟨p, 0, none⟩) k k, .int .i64 (y : Int), .pointer (some ⟨p, y, none⟩), .int .i64 (oy : Int), .bool true, .bool true, .bool true, .bool true, .bool true, .bool true, .bool true, .bool true, .bool false, .bool false, .slice (some ⟨gb, off, none⟩) k cg, .int .i64 (y : Int), .int .i64 (z : Int), .bool true, .bool false, .bool false, .bool false, .slice (some ⟨gb, off, none⟩) k cg, .int .i64 (x : Int), .int .i64 (z : Int), .bool true, .bool true, .bool true, .bool true, .slice (some ⟨gb, off, none⟩) k cg, .int .i64 (x : Int), .int .i64 (x : Int), .bool true, .bool true, .bool true, .slice (some ⟨gb, off, none⟩) k cg, .int .i64 (x : Int), .slice (some ⟨gb, off, none⟩) k cg, .int .i64 (k : Int), .bool false, .bool true, .bool true, .bool true, .slice (some ⟨gb, off, none⟩) k cg, .int .i64 (x : Int), .bool false, .bool true, .bool true, .bool true, .bool true, .bool true, .bool true] : List Value).getD zq undef) (by rfl) (fun z v w w' h hb => h) (by kernel_rfl) (dst_in (by kernel_rfl)) ?_ ?_
              · intro z0 o0 a w1 hi hb1 hrest hdep
                have hlt : z0 < 55 := (Array.getElem?_eq_some_iff.1 hi).1
                have ez : z0 = 0 ∨ z0 = 1 ∨ z0 = 2 ∨ z0 = 3 ∨ z0 = 4 ∨ z0 = 5 ∨ z0 = 6 ∨ z0 = 7 ∨ z0 = 8 ∨ z0 = 9 ∨ z0 = 10 ∨ z0 = 11 ∨ z0 = 12 ∨ z0 = 13 ∨ z0 = 14 ∨ z0 = 15 ∨ z0 = 16 ∨ z0 = 17 ∨ z0 = 18 ∨ z0 = 19 ∨ z0 = 20 ∨ z0 = 21 ∨ z0 = 22 ∨ z0 = 23 ∨ z0 = 24 ∨ z0 = 25 ∨ z0 = 26 ∨ z0 = 27 ∨ z0 = 28 ∨ z0 = 29 ∨ z0 = 30 ∨ z0 = 31 ∨ z0 = 32 ∨ z0 = 33 ∨ z0 = 34 ∨ z0 = 35 ∨ z0 = 36 ∨ z0 = 37 ∨ z0 = 38 ∨ z0 = 39 ∨ z0 = 40 ∨ z0 = 41 ∨ z0 = 42 ∨ z0 = 43 ∨ z0 = 44 ∨ z0 = 45 ∨ z0 = 46 ∨ z0 = 47 ∨ z0 = 48 ∨ z0 = 49 ∨ z0 = 50 ∨ z0 = 51 ∨ z0 = 52 ∨ z0 = 53 ∨ z0 = 54 := by omega
                rcases ez with rfl | rfl | rfl | rfl | rfl | rfl | rfl | rfl | rfl | rfl | rfl | rfl | rfl | rfl | rfl | rfl | rfl | rfl | rfl | rfl | rfl | rfl | rfl | rfl | rfl | rfl | rfl | rfl | rfl | rfl | rfl | rfl | rfl | rfl | rfl | rfl | rfl | rfl | rfl | rfl | rfl | rfl | rfl | rfl | rfl | rfl | rfl | rfl | rfl | rfl | rfl | rfl | rfl | rfl | rfl
                · obtain rfl := Option.some.inj hi
                  have e16 : a.eval (.tmp 16) = .slice (some ⟨p, 0, none⟩) k k := eval_of ((hrest 16 (no_dst0 (by kernel_rfl))).trans rfl)
                  exact wpOp_of rfl rfl (wp_run (v := .slice (some ⟨p, 0, none⟩) k k) (w' := w1) (xmove rfl e16) ⟨_, rfl, rfl, Below.refl _ w1⟩)
                · obtain rfl := Option.some.inj hi
                  have e12 : a.eval (.tmp 12) = .int .i64 (x : Int) := eval_of ((hrest 12 (no_dst0 (by kernel_rfl))).trans rfl)
                  exact wpOp_of rfl rfl (wp_run (v := .int .i64 (x : Int)) (w' := w1) (xmove rfl e12) ⟨_, rfl, rfl, Below.refl _ w1⟩)
                · obtain rfl := Option.some.inj hi
                  obtain ⟨u122, h122, g122⟩ := hdep ⟨0, .data⟩ (by simp) rfl _ 122 rfl rfl
                  have g122 : u122 = .slice (some ⟨p, 0, none⟩) k k := g122
                  subst g122
                  have e122 := eval_of h122
                  obtain ⟨u123, h123, g123⟩ := hdep ⟨1, .data⟩ (by simp) rfl _ 123 rfl rfl
                  have g123 : u123 = .int .i64 (x : Int) := g123
                  subst g123
                  have e123 := eval_of h123
                  exact wpOp_of rfl rfl (wp_run (v := .pointer (some ⟨p, x, none⟩)) (w' := w1) (xindex rfl e122 e123 hxk) ⟨_, rfl, rfl, Below.refl _ w1⟩)
                · obtain rfl := Option.some.inj hi
                  obtain ⟨u124, h124, g124⟩ := hdep ⟨2, .data⟩ (by simp) rfl _ 124 rfl rfl
                  have g124 : u124 = .pointer (some ⟨p, x, none⟩) := g124
                  subst g124
                  have e124 := eval_of h124
                  exact wpOp_of rfl rfl (wp_run (v := .int .i64 (ox : Int)) (w' := w1) (xload rfl e124 ((hb1.cell (p := ⟨p, x, none⟩) hpl7).trans cx)) ⟨_, rfl, rfl, Below.refl _ w1⟩)
                · obtain rfl := Option.some.inj hi
                  have e16 : a.eval (.tmp 16) = .slice (some ⟨p, 0, none⟩) k k := eval_of ((hrest 16 (no_dst0 (by kernel_rfl))).trans rfl)
                  exact wpOp_of rfl rfl (wp_run (v := .slice (some ⟨p, 0, none⟩) k k) (w' := w1) (xmove rfl e16) ⟨_, rfl, rfl, Below.refl _ w1⟩)
                · obtain rfl := Option.some.inj hi
                  have e13 : a.eval (.tmp 13) = .int .i64 (y : Int) := eval_of ((hrest 13 (no_dst0 (by kernel_rfl))).trans rfl)
                  exact wpOp_of rfl rfl (wp_run (v := .int .i64 (y : Int)) (w' := w1) (xmove rfl e13) ⟨_, rfl, rfl, Below.refl _ w1⟩)
                · obtain rfl := Option.some.inj hi
                  obtain ⟨u126, h126, g126⟩ := hdep ⟨4, .data⟩ (by simp) rfl _ 126 rfl rfl
                  have g126 : u126 = .slice (some ⟨p, 0, none⟩) k k := g126
                  subst g126
                  have e126 := eval_of h126
                  obtain ⟨u127, h127, g127⟩ := hdep ⟨5, .data⟩ (by simp) rfl _ 127 rfl rfl
                  have g127 : u127 = .int .i64 (y : Int) := g127
                  subst g127
                  have e127 := eval_of h127
                  exact wpOp_of rfl rfl (wp_run (v := .pointer (some ⟨p, y, none⟩)) (w' := w1) (xindex rfl e126 e127 hyk) ⟨_, rfl, rfl, Below.refl _ w1⟩)
                · obtain rfl := Option.some.inj hi
                  obtain ⟨u128, h128, g128⟩ := hdep ⟨6, .data⟩ (by simp) rfl _ 128 rfl rfl
                  have g128 : u128 = .pointer (some ⟨p, y, none⟩) := g128
                  subst g128
                  have e128 := eval_of h128
                  exact wpOp_of rfl rfl (wp_run (v := .int .i64 (oy : Int)) (w' := w1) (xload rfl e128 ((hb1.cell (p := ⟨p, y, none⟩) hpl7).trans cy)) ⟨_, rfl, rfl, Below.refl _ w1⟩)
                · obtain rfl := Option.some.inj hi
                  obtain ⟨u125, h125, g125⟩ := hdep ⟨3, .data⟩ (by simp) rfl _ 125 rfl rfl
                  have g125 : u125 = .int .i64 (ox : Int) := g125
                  subst g125
                  have e125 := eval_of h125
                  obtain ⟨u129, h129, g129⟩ := hdep ⟨7, .data⟩ (by simp) rfl _ 129 rfl rfl
                  have g129 : u129 = .int .i64 (oy : Int) := g129
                  subst g129
                  have e129 := eval_of h129
                  exact wpOp_of rfl rfl (wp_run (v := .bool true) (w' := w1) ((xeqi rfl e125 e129).trans (by rw [e5])) ⟨_, rfl, rfl, Below.refl _ w1⟩)
                · obtain rfl := Option.some.inj hi
                  have e19 : a.eval (.tmp 19) = .bool true := eval_of ((hrest 19 (no_dst0 (by kernel_rfl))).trans rfl)
                  exact wpOp_of rfl rfl (wp_run (v := .bool true) (w' := w1) (xmove rfl e19) ⟨_, rfl, rfl, Below.refl _ w1⟩)
                · obtain rfl := Option.some.inj hi
                  obtain ⟨u131, h131, g131⟩ := hdep ⟨9, .data⟩ (by simp) rfl _ 131 rfl rfl
                  have g131 : u131 = .bool true := g131
                  subst g131
                  have e131 := eval_of h131
                  exact wpOp_of rfl rfl (wp_run (v := .bool true) (w' := w1) (xmove rfl e131) ⟨_, rfl, rfl, Below.refl _ w1⟩)
                · obtain rfl := Option.some.inj hi
                  obtain ⟨gu, gh, gg⟩ := hdep ⟨10, .guard⟩ (by simp) rfl _ 132 rfl rfl
                  have gg : gu = .bool true := gg
                  subst gg
                  have e20 : a.eval (.tmp 20) = .bool true := eval_of ((hrest 20 (no_dst0 (by kernel_rfl))).trans rfl)
                  exact wpOp_yes rfl rfl rfl rfl gh (wp_run (v := .bool true) (w' := w1) (xmove rfl e20) ⟨_, rfl, rfl, Below.refl _ w1⟩)
                · obtain rfl := Option.some.inj hi
                  obtain ⟨u132, h132, g132⟩ := hdep ⟨10, .data⟩ (by simp) rfl _ 132 rfl rfl
                  have g132 : u132 = .bool true := g132
                  subst g132
                  have e132 := eval_of h132
                  obtain ⟨u133, h133, g133⟩ := hdep ⟨11, .data⟩ (by simp) rfl _ 133 rfl rfl
                  have g133 : u133 = .bool true := g133
                  subst g133
                  have e133 := eval_of h133
                  exact wpOp_of rfl rfl (wp_run (v := .bool true) (w' := w1) (xpick rfl e132 e133 rfl) ⟨_, rfl, rfl, Below.refl _ w1⟩)
                · obtain rfl := Option.some.inj hi
                  obtain ⟨u130, h130, g130⟩ := hdep ⟨8, .data⟩ (by simp) rfl _ 130 rfl rfl
                  have g130 : u130 = .bool true := g130
                  subst g130
                  have e130 := eval_of h130
                  obtain ⟨u134, h134, g134⟩ := hdep ⟨12, .data⟩ (by simp) rfl _ 134 rfl rfl
                  have g134 : u134 = .bool true := g134
                  subst g134
                  have e134 := eval_of h134
                  exact wpOp_of rfl rfl (wp_run (v := .bool true) (w' := w1) (xeqb rfl e130 e134) ⟨_, rfl, rfl, Below.refl _ w1⟩)
                · obtain rfl := Option.some.inj hi
                  obtain ⟨u135, h135, g135⟩ := hdep ⟨13, .data⟩ (by simp) rfl _ 135 rfl rfl
                  have g135 : u135 = .bool true := g135
                  subst g135
                  have e135 := eval_of h135
                  exact wpOp_of rfl rfl (wp_run (v := .bool true) (w' := w1) (xmove rfl e135) ⟨_, rfl, rfl, Below.refl _ w1⟩)
                · obtain rfl := Option.some.inj hi
                  obtain ⟨gu, gh, gg⟩ := hdep ⟨14, .guard⟩ (by simp) rfl _ 136 rfl rfl
                  have gg : gu = .bool true := gg
                  subst gg
                  have e19 : a.eval (.tmp 19) = .bool true := eval_of ((hrest 19 (no_dst0 (by kernel_rfl))).trans rfl)
                  exact wpOp_yes rfl rfl rfl rfl gh (wp_run (v := .bool true) (w' := w1) (xmove rfl e19) ⟨_, rfl, rfl, Below.refl _ w1⟩)
                · obtain rfl := Option.some.inj hi
                  obtain ⟨gu, gh, gg⟩ := hdep ⟨14, .guard⟩ (by simp) rfl _ 136 rfl rfl
                  have gg : gu = .bool true := gg
                  subst gg
                  obtain ⟨u137, h137, g137⟩ := hdep ⟨15, .data⟩ (by simp) rfl _ 137 rfl rfl
                  have g137 : u137 = .bool true := g137
                  subst g137
                  have e137 := eval_of h137
                  exact wpOp_yes rfl rfl rfl rfl gh (wp_run (v := .bool false) (w' := w1) (xnot rfl e137) ⟨_, rfl, rfl, Below.refl _ w1⟩)
                · obtain rfl := Option.some.inj hi
                  obtain ⟨gu, gh, gg⟩ := hdep ⟨14, .guard⟩ (by simp) rfl _ 136 rfl rfl
                  have gg : gu = .bool true := gg
                  subst gg
                  obtain ⟨u138, h138, g138⟩ := hdep ⟨16, .data⟩ (by simp) rfl _ 138 rfl rfl
                  have g138 : u138 = .bool false := g138
                  subst g138
                  have e138 := eval_of h138
                  exact wpOp_yes rfl rfl rfl rfl gh (wp_run (v := .bool false) (w' := w1) (xmove rfl e138) ⟨_, rfl, rfl, Below.refl _ w1⟩)
                · obtain rfl := Option.some.inj hi
                  obtain ⟨gu, gh, gg⟩ := hdep ⟨17, .guard⟩ (by simp) rfl _ 139 rfl rfl
                  have gg : gu = .bool false := gg
                  subst gg
                  have e11 : a.eval (.tmp 11) = .slice (some ⟨gb, off, none⟩) k cg := eval_of ((hrest 11 (no_dst0 (by kernel_rfl))).trans rfl)
                  exact wpOp_yes rfl rfl rfl rfl gh (wp_run (v := .slice (some ⟨gb, off, none⟩) k cg) (w' := w1) (xmove rfl e11) ⟨_, rfl, rfl, Below.refl _ w1⟩)
                · obtain rfl := Option.some.inj hi
                  obtain ⟨gu, gh, gg⟩ := hdep ⟨17, .guard⟩ (by simp) rfl _ 139 rfl rfl
                  have gg : gu = .bool false := gg
                  subst gg
                  have e13 : a.eval (.tmp 13) = .int .i64 (y : Int) := eval_of ((hrest 13 (no_dst0 (by kernel_rfl))).trans rfl)
                  exact wpOp_yes rfl rfl rfl rfl gh (wp_run (v := .int .i64 (y : Int)) (w' := w1) (xmove rfl e13) ⟨_, rfl, rfl, Below.refl _ w1⟩)
                · obtain rfl := Option.some.inj hi
                  obtain ⟨gu, gh, gg⟩ := hdep ⟨17, .guard⟩ (by simp) rfl _ 139 rfl rfl
                  have gg : gu = .bool false := gg
                  subst gg
                  have e14 : a.eval (.tmp 14) = .int .i64 (z : Int) := eval_of ((hrest 14 (no_dst0 (by kernel_rfl))).trans rfl)
                  exact wpOp_yes rfl rfl rfl rfl gh (wp_run (v := .int .i64 (z : Int)) (w' := w1) (xmove rfl e14) ⟨_, rfl, rfl, Below.refl _ w1⟩)
                · obtain rfl := Option.some.inj hi
                  obtain ⟨gu, gh, gg⟩ := hdep ⟨17, .guard⟩ (by simp) rfl _ 139 rfl rfl
                  have gg : gu = .bool false := gg
                  subst gg
                  obtain ⟨u140, h140, g140⟩ := hdep ⟨18, .data⟩ (by simp) rfl _ 140 rfl rfl
                  have g140 : u140 = .slice (some ⟨gb, off, none⟩) k cg := g140
                  subst g140
                  have e140 := eval_of h140
                  obtain ⟨u141, h141, g141⟩ := hdep ⟨19, .data⟩ (by simp) rfl _ 141 rfl rfl
                  have g141 : u141 = .int .i64 (y : Int) := g141
                  subst g141
                  have e141 := eval_of h141
                  obtain ⟨u142, h142, g142⟩ := hdep ⟨20, .data⟩ (by simp) rfl _ 142 rfl rfl
                  have g142 : u142 = .int .i64 (z : Int) := g142
                  subst g142
                  have e142 := eval_of h142
                  exact wpOp_yes rfl rfl rfl rfl gh (wp_call3 _ _ Try.func12 (by decide) (by intro hh; cases hh) _ _ _ _ _ _ e140 e141 e142 _ rfl (HYZ.out w1 hb1) (fun w' hb => ⟨_, rfl, rfl, hb⟩))
                · obtain rfl := Option.some.inj hi
                  obtain ⟨gu, gh, gg⟩ := hdep ⟨17, .guard⟩ (by simp) rfl _ 139 rfl rfl
                  have gg : gu = .bool false := gg
                  subst gg
                  obtain ⟨u143, h143, g143⟩ := hdep ⟨21, .data⟩ (by simp) rfl _ 143 rfl rfl
                  have g143 : u143 = .bool true := g143
                  subst g143
                  have e143 := eval_of h143
                  exact wpOp_yes rfl rfl rfl rfl gh (wp_run (v := .bool false) (w' := w1) (xnot rfl e143) ⟨_, rfl, rfl, Below.refl _ w1⟩)
                · obtain rfl := Option.some.inj hi
                  obtain ⟨gu, gh, gg⟩ := hdep ⟨14, .guard⟩ (by simp) rfl _ 136 rfl rfl
                  have gg : gu = .bool true := gg
                  subst gg
                  obtain ⟨u139, h139, g139⟩ := hdep ⟨17, .data⟩ (by simp) rfl _ 139 rfl rfl
                  have g139 : u139 = .bool false := g139
                  subst g139
                  have e139 := eval_of h139
                  obtain ⟨u144, h144, g144⟩ := hdep ⟨22, .data⟩ (by simp) rfl _ 144 rfl rfl
                  have g144 : u144 = .bool false := g144
                  subst g144
                  have e144 := eval_of h144
                  exact wpOp_yes rfl rfl rfl rfl gh (wp_run (v := .bool false) (w' := w1) (xpick rfl e139 rfl e144) ⟨_, rfl, rfl, Below.refl _ w1⟩)
                · obtain rfl := Option.some.inj hi
                  obtain ⟨gu, gh, gg⟩ := hdep ⟨14, .guard⟩ (by simp) rfl _ 136 rfl rfl
                  have gg : gu = .bool true := gg
                  subst gg
                  obtain ⟨u145, h145, g145⟩ := hdep ⟨23, .data⟩ (by simp) rfl _ 145 rfl rfl
                  have g145 : u145 = .bool false := g145
                  subst g145
                  have e145 := eval_of h145
                  exact wpOp_yes rfl rfl rfl rfl gh (wp_run (v := .bool false) (w' := w1) (xmove rfl e145) ⟨_, rfl, rfl, Below.refl _ w1⟩)
                · obtain rfl := Option.some.inj hi
                  obtain ⟨gu, gh, gg⟩ := hdep ⟨24, .guard⟩ (by simp) rfl _ 146 rfl rfl
                  have gg : gu = .bool false := gg
                  subst gg
                  have e11 : a.eval (.tmp 11) = .slice (some ⟨gb, off, none⟩) k cg := eval_of ((hrest 11 (no_dst0 (by kernel_rfl))).trans rfl)
                  exact wpOp_yes rfl rfl rfl rfl gh (wp_run (v := .slice (some ⟨gb, off, none⟩) k cg) (w' := w1) (xmove rfl e11) ⟨_, rfl, rfl, Below.refl _ w1⟩)
                · obtain rfl := Option.some.inj hi
                  obtain ⟨gu, gh, gg⟩ := hdep ⟨24, .guard⟩ (by simp) rfl _ 146 rfl rfl
                  have gg : gu = .bool false := gg
                  subst gg
                  have e12 : a.eval (.tmp 12) = .int .i64 (x : Int) := eval_of ((hrest 12 (no_dst0 (by kernel_rfl))).trans rfl)
                  exact wpOp_yes rfl rfl rfl rfl gh (wp_run (v := .int .i64 (x : Int)) (w' := w1) (xmove rfl e12) ⟨_, rfl, rfl, Below.refl _ w1⟩)
                · obtain rfl := Option.some.inj hi
                  obtain ⟨gu, gh, gg⟩ := hdep ⟨24, .guard⟩ (by simp) rfl _ 146 rfl rfl
                  have gg : gu = .bool false := gg
                  subst gg
                  have e14 : a.eval (.tmp 14) = .int .i64 (z : Int) := eval_of ((hrest 14 (no_dst0 (by kernel_rfl))).trans rfl)
                  exact wpOp_yes rfl rfl rfl rfl gh (wp_run (v := .int .i64 (z : Int)) (w' := w1) (xmove rfl e14) ⟨_, rfl, rfl, Below.refl _ w1⟩)
                · obtain rfl := Option.some.inj hi
                  obtain ⟨gu, gh, gg⟩ := hdep ⟨24, .guard⟩ (by simp) rfl _ 146 rfl rfl
                  have gg : gu = .bool false := gg
                  subst gg
                  obtain ⟨u147, h147, g147⟩ := hdep ⟨25, .data⟩ (by simp) rfl _ 147 rfl rfl
                  have g147 : u147 = .slice (some ⟨gb, off, none⟩) k cg := g147
                  subst g147
                  have e147 := eval_of h147
                  obtain ⟨u148, h148, g148⟩ := hdep ⟨26, .data⟩ (by simp) rfl _ 148 rfl rfl
                  have g148 : u148 = .int .i64 (x : Int) := g148
                  subst g148
                  have e148 := eval_of h148
                  obtain ⟨u149, h149, g149⟩ := hdep ⟨27, .data⟩ (by simp) rfl _ 149 rfl rfl
                  have g149 : u149 = .int .i64 (z : Int) := g149
                  subst g149
                  have e149 := eval_of h149
                  exact wpOp_yes rfl rfl rfl rfl gh (wp_call3 _ _ Try.func12 (by decide) (by intro hh; cases hh) _ _ _ _ _ _ e147 e148 e149 _ rfl (HXZ.out w1 hb1) (fun w' hb => ⟨_, rfl, rfl, hb⟩))
                · obtain rfl := Option.some.inj hi
                  obtain ⟨gu, gh, gg⟩ := hdep ⟨14, .guard⟩ (by simp) rfl _ 136 rfl rfl
                  have gg : gu = .bool true := gg
                  subst gg
                  obtain ⟨u146, h146, g146⟩ := hdep ⟨24, .data⟩ (by simp) rfl _ 146 rfl rfl
                  have g146 : u146 = .bool false := g146
                  subst g146
                  have e146 := eval_of h146
                  obtain ⟨u150, h150, g150⟩ := hdep ⟨28, .data⟩ (by simp) rfl _ 150 rfl rfl
                  have g150 : u150 = .bool true := g150
                  subst g150
                  have e150 := eval_of h150
                  exact wpOp_yes rfl rfl rfl rfl gh (wp_run (v := .bool true) (w' := w1) (xpick rfl e146 rfl e150) ⟨_, rfl, rfl, Below.refl _ w1⟩)
                · obtain rfl := Option.some.inj hi
                  obtain ⟨u136, h136, g136⟩ := hdep ⟨14, .data⟩ (by simp) rfl _ 136 rfl rfl
                  have g136 : u136 = .bool true := g136
                  subst g136
                  have e136 := eval_of h136
                  obtain ⟨u151, h151, g151⟩ := hdep ⟨29, .data⟩ (by simp) rfl _ 151 rfl rfl
                  have g151 : u151 = .bool true := g151
                  subst g151
                  have e151 := eval_of h151
                  exact wpOp_of rfl rfl (wp_run (v := .bool true) (w' := w1) (xpick rfl e136 e151 rfl) ⟨_, rfl, rfl, Below.refl _ w1⟩)
                · obtain rfl := Option.some.inj hi
                  obtain ⟨u152, h152, g152⟩ := hdep ⟨30, .data⟩ (by simp) rfl _ 152 rfl rfl
                  have g152 : u152 = .bool true := g152
                  subst g152
                  have e152 := eval_of h152
                  exact wpOp_of rfl rfl (wp_run (v := .bool true) (w' := w1) (xmove rfl e152) ⟨_, rfl, rfl, Below.refl _ w1⟩)
                · obtain rfl := Option.some.inj hi
                  obtain ⟨gu, gh, gg⟩ := hdep ⟨31, .guard⟩ (by simp) rfl _ 153 rfl rfl
                  have gg : gu = .bool true := gg
                  subst gg
                  have e11 : a.eval (.tmp 11) = .slice (some ⟨gb, off, none⟩) k cg := eval_of ((hrest 11 (no_dst0 (by kernel_rfl))).trans rfl)
                  exact wpOp_yes rfl rfl rfl rfl gh (wp_run (v := .slice (some ⟨gb, off, none⟩) k cg) (w' := w1) (xmove rfl e11) ⟨_, rfl, rfl, Below.refl _ w1⟩)
                · obtain rfl := Option.some.inj hi
                  obtain ⟨gu, gh, gg⟩ := hdep ⟨31, .guard⟩ (by simp) rfl _ 153 rfl rfl
                  have gg : gu = .bool true := gg
                  subst gg
                  have e12 : a.eval (.tmp 12) = .int .i64 (x : Int) := eval_of ((hrest 12 (no_dst0 (by kernel_rfl))).trans rfl)
                  exact wpOp_yes rfl rfl rfl rfl gh (wp_run (v := .int .i64 (x : Int)) (w' := w1) (xmove rfl e12) ⟨_, rfl, rfl, Below.refl _ w1⟩)
                · obtain rfl := Option.some.inj hi
                  obtain ⟨gu, gh, gg⟩ := hdep ⟨31, .guard⟩ (by simp) rfl _ 153 rfl rfl
                  have gg : gu = .bool true := gg
                  subst gg
                  have e12 : a.eval (.tmp 12) = .int .i64 (x : Int) := eval_of ((hrest 12 (no_dst0 (by kernel_rfl))).trans rfl)
                  exact wpOp_yes rfl rfl rfl rfl gh (wp_run (v := .int .i64 (x : Int)) (w' := w1) (xmove rfl e12) ⟨_, rfl, rfl, Below.refl _ w1⟩)
                · obtain rfl := Option.some.inj hi
                  obtain ⟨gu, gh, gg⟩ := hdep ⟨31, .guard⟩ (by simp) rfl _ 153 rfl rfl
                  have gg : gu = .bool true := gg
                  subst gg
                  obtain ⟨u154, h154, g154⟩ := hdep ⟨32, .data⟩ (by simp) rfl _ 154 rfl rfl
                  have g154 : u154 = .slice (some ⟨gb, off, none⟩) k cg := g154
                  subst g154
                  have e154 := eval_of h154
                  obtain ⟨u155, h155, g155⟩ := hdep ⟨33, .data⟩ (by simp) rfl _ 155 rfl rfl
                  have g155 : u155 = .int .i64 (x : Int) := g155
                  subst g155
                  have e155 := eval_of h155
                  obtain ⟨u156, h156, g156⟩ := hdep ⟨34, .data⟩ (by simp) rfl _ 156 rfl rfl
                  have g156 : u156 = .int .i64 (x : Int) := g156
                  subst g156
                  have e156 := eval_of h156
                  exact wpOp_yes rfl rfl rfl rfl gh (wp_call3 _ _ Try.func12 (by decide) (by intro hh; cases hh) _ _ _ _ _ _ e154 e155 e156 _ rfl (HXX.out w1 hb1) (fun w' hb => ⟨_, rfl, rfl, hb⟩))
                · obtain rfl := Option.some.inj hi
                  obtain ⟨u153, h153, g153⟩ := hdep ⟨31, .data⟩ (by simp) rfl _ 153 rfl rfl
                  have g153 : u153 = .bool true := g153
                  subst g153
                  have e153 := eval_of h153
                  obtain ⟨u157, h157, g157⟩ := hdep ⟨35, .data⟩ (by simp) rfl _ 157 rfl rfl
                  have g157 : u157 = .bool true := g157
                  subst g157
                  have e157 := eval_of h157
                  exact wpOp_of rfl rfl (wp_run (v := .bool true) (w' := w1) (xpick rfl e153 e157 rfl) ⟨_, rfl, rfl, Below.refl _ w1⟩)
                · obtain rfl := Option.some.inj hi
                  obtain ⟨u158, h158, g158⟩ := hdep ⟨36, .data⟩ (by simp) rfl _ 158 rfl rfl
                  have g158 : u158 = .bool true := g158
                  subst g158
                  have e158 := eval_of h158
                  exact wpOp_of rfl rfl (wp_run (v := .bool true) (w' := w1) (xmove rfl e158) ⟨_, rfl, rfl, Below.refl _ w1⟩)
                · obtain rfl := Option.some.inj hi
                  obtain ⟨gu, gh, gg⟩ := hdep ⟨37, .guard⟩ (by simp) rfl _ 159 rfl rfl
                  have gg : gu = .bool true := gg
                  subst gg
                  have e11 : a.eval (.tmp 11) = .slice (some ⟨gb, off, none⟩) k cg := eval_of ((hrest 11 (no_dst0 (by kernel_rfl))).trans rfl)
                  exact wpOp_yes rfl rfl rfl rfl gh (wp_run (v := .slice (some ⟨gb, off, none⟩) k cg) (w' := w1) (xmove rfl e11) ⟨_, rfl, rfl, Below.refl _ w1⟩)
                · obtain rfl := Option.some.inj hi
                  obtain ⟨gu, gh, gg⟩ := hdep ⟨37, .guard⟩ (by simp) rfl _ 159 rfl rfl
                  have gg : gu = .bool true := gg
                  subst gg
                  have e12 : a.eval (.tmp 12) = .int .i64 (x : Int) := eval_of ((hrest 12 (no_dst0 (by kernel_rfl))).trans rfl)
                  exact wpOp_yes rfl rfl rfl rfl gh (wp_run (v := .int .i64 (x : Int)) (w' := w1) (xmove rfl e12) ⟨_, rfl, rfl, Below.refl _ w1⟩)
                · obtain rfl := Option.some.inj hi
                  obtain ⟨gu, gh, gg⟩ := hdep ⟨37, .guard⟩ (by simp) rfl _ 159 rfl rfl
                  have gg : gu = .bool true := gg
                  subst gg
                  have e11 : a.eval (.tmp 11) = .slice (some ⟨gb, off, none⟩) k cg := eval_of ((hrest 11 (no_dst0 (by kernel_rfl))).trans rfl)
                  exact wpOp_yes rfl rfl rfl rfl gh (wp_run (v := .slice (some ⟨gb, off, none⟩) k cg) (w' := w1) (xmove rfl e11) ⟨_, rfl, rfl, Below.refl _ w1⟩)
                · obtain rfl := Option.some.inj hi
                  obtain ⟨gu, gh, gg⟩ := hdep ⟨37, .guard⟩ (by simp) rfl _ 159 rfl rfl
                  have gg : gu = .bool true := gg
                  subst gg
                  obtain ⟨u162, h162, g162⟩ := hdep ⟨40, .data⟩ (by simp) rfl _ 162 rfl rfl
                  have g162 : u162 = .slice (some ⟨gb, off, none⟩) k cg := g162
                  subst g162
                  have e162 := eval_of h162
                  exact wpOp_yes rfl rfl rfl rfl gh (wp_run (v := .int .i64 (k : Int)) (w' := w1) (xlen rfl e162) ⟨_, rfl, rfl, Below.refl _ w1⟩)
                · obtain rfl := Option.some.inj hi
                  obtain ⟨gu, gh, gg⟩ := hdep ⟨37, .guard⟩ (by simp) rfl _ 159 rfl rfl
                  have gg : gu = .bool true := gg
                  subst gg
                  obtain ⟨u160, h160, g160⟩ := hdep ⟨38, .data⟩ (by simp) rfl _ 160 rfl rfl
                  have g160 : u160 = .slice (some ⟨gb, off, none⟩) k cg := g160
                  subst g160
                  have e160 := eval_of h160
                  obtain ⟨u161, h161, g161⟩ := hdep ⟨39, .data⟩ (by simp) rfl _ 161 rfl rfl
                  have g161 : u161 = .int .i64 (x : Int) := g161
                  subst g161
                  have e161 := eval_of h161
                  obtain ⟨u163, h163, g163⟩ := hdep ⟨41, .data⟩ (by simp) rfl _ 163 rfl rfl
                  have g163 : u163 = .int .i64 (k : Int) := g163
                  subst g163
                  have e163 := eval_of h163
                  exact wpOp_yes rfl rfl rfl rfl gh (wp_call3 _ _ Try.func12 (by decide) (by intro hh; cases hh) _ _ _ _ _ _ e160 e161 e163 _ rfl (HXK.out w1 hb1) (fun w' hb => ⟨_, rfl, rfl, hb⟩))
                · obtain rfl := Option.some.inj hi
                  obtain ⟨gu, gh, gg⟩ := hdep ⟨37, .guard⟩ (by simp) rfl _ 159 rfl rfl
                  have gg : gu = .bool true := gg
                  subst gg
                  obtain ⟨u164, h164, g164⟩ := hdep ⟨42, .data⟩ (by simp) rfl _ 164 rfl rfl
                  have g164 : u164 = .bool false := g164
                  subst g164
                  have e164 := eval_of h164
                  exact wpOp_yes rfl rfl rfl rfl gh (wp_run (v := .bool true) (w' := w1) (xnot rfl e164) ⟨_, rfl, rfl, Below.refl _ w1⟩)
                · obtain rfl := Option.some.inj hi
                  obtain ⟨u159, h159, g159⟩ := hdep ⟨37, .data⟩ (by simp) rfl _ 159 rfl rfl
                  have g159 : u159 = .bool true := g159
                  subst g159
                  have e159 := eval_of h159
                  obtain ⟨u165, h165, g165⟩ := hdep ⟨43, .data⟩ (by simp) rfl _ 165 rfl rfl
                  have g165 : u165 = .bool true := g165
                  subst g165
                  have e165 := eval_of h165
                  exact wpOp_of rfl rfl (wp_run (v := .bool true) (w' := w1) (xpick rfl e159 e165 rfl) ⟨_, rfl, rfl, Below.refl _ w1⟩)
                · obtain rfl := Option.some.inj hi
                  obtain ⟨u166, h166, g166⟩ := hdep ⟨44, .data⟩ (by simp) rfl _ 166 rfl rfl
                  have g166 : u166 = .bool true := g166
                  subst g166
                  have e166 := eval_of h166
                  exact wpOp_of rfl rfl (wp_run (v := .bool true) (w' := w1) (xmove rfl e166) ⟨_, rfl, rfl, Below.refl _ w1⟩)
                · obtain rfl := Option.some.inj hi
                  obtain ⟨gu, gh, gg⟩ := hdep ⟨45, .guard⟩ (by simp) rfl _ 167 rfl rfl
                  have gg : gu = .bool true := gg
                  subst gg
                  have e11 : a.eval (.tmp 11) = .slice (some ⟨gb, off, none⟩) k cg := eval_of ((hrest 11 (no_dst0 (by kernel_rfl))).trans rfl)
                  exact wpOp_yes rfl rfl rfl rfl gh (wp_run (v := .slice (some ⟨gb, off, none⟩) k cg) (w' := w1) (xmove rfl e11) ⟨_, rfl, rfl, Below.refl _ w1⟩)
                · obtain rfl := Option.some.inj hi
                  obtain ⟨gu, gh, gg⟩ := hdep ⟨45, .guard⟩ (by simp) rfl _ 167 rfl rfl
                  have gg : gu = .bool true := gg
                  subst gg
                  have e12 : a.eval (.tmp 12) = .int .i64 (x : Int) := eval_of ((hrest 12 (no_dst0 (by kernel_rfl))).trans rfl)
                  exact wpOp_yes rfl rfl rfl rfl gh (wp_run (v := .int .i64 (x : Int)) (w' := w1) (xmove rfl e12) ⟨_, rfl, rfl, Below.refl _ w1⟩)
                · obtain rfl := Option.some.inj hi
                  obtain ⟨gu, gh, gg⟩ := hdep ⟨45, .guard⟩ (by simp) rfl _ 167 rfl rfl
                  have gg : gu = .bool true := gg
                  subst gg
                  obtain ⟨u168, h168, g168⟩ := hdep ⟨46, .data⟩ (by simp) rfl _ 168 rfl rfl
                  have g168 : u168 = .slice (some ⟨gb, off, none⟩) k cg := g168
                  subst g168
                  have e168 := eval_of h168
                  obtain ⟨u169, h169, g169⟩ := hdep ⟨47, .data⟩ (by simp) rfl _ 169 rfl rfl
                  have g169 : u169 = .int .i64 (x : Int) := g169
                  subst g169
                  have e169 := eval_of h169
                  exact wpOp_yes rfl rfl rfl rfl gh (wp_call3 _ _ Try.func12 (by decide) (by intro hh; cases hh) _ _ _ _ _ _ e168 rfl e169 _ rfl (HMX.out w1 hb1) (fun w' hb => ⟨_, rfl, rfl, hb⟩))
                · obtain rfl := Option.some.inj hi
                  obtain ⟨gu, gh, gg⟩ := hdep ⟨45, .guard⟩ (by simp) rfl _ 167 rfl rfl
                  have gg : gu = .bool true := gg
                  subst gg
                  obtain ⟨u170, h170, g170⟩ := hdep ⟨48, .data⟩ (by simp) rfl _ 170 rfl rfl
                  have g170 : u170 = .bool false := g170
                  subst g170
                  have e170 := eval_of h170
                  exact wpOp_yes rfl rfl rfl rfl gh (wp_run (v := .bool true) (w' := w1) (xnot rfl e170) ⟨_, rfl, rfl, Below.refl _ w1⟩)
                · obtain rfl := Option.some.inj hi
                  obtain ⟨u167, h167, g167⟩ := hdep ⟨45, .data⟩ (by simp) rfl _ 167 rfl rfl
                  have g167 : u167 = .bool true := g167
                  subst g167
                  have e167 := eval_of h167
                  obtain ⟨u171, h171, g171⟩ := hdep ⟨49, .data⟩ (by simp) rfl _ 171 rfl rfl
                  have g171 : u171 = .bool true := g171
                  subst g171
                  have e171 := eval_of h171
                  exact wpOp_of rfl rfl (wp_run (v := .bool true) (w' := w1) (xpick rfl e167 e171 rfl) ⟨_, rfl, rfl, Below.refl _ w1⟩)
                · obtain rfl := Option.some.inj hi
                  obtain ⟨u172, h172, g172⟩ := hdep ⟨50, .data⟩ (by simp) rfl _ 172 rfl rfl
                  have g172 : u172 = .bool true := g172
                  subst g172
                  have e172 := eval_of h172
                  exact wpOp_of rfl rfl (wp_run (v := .bool true) (w' := w1) (xmove rfl e172) ⟨_, rfl, rfl, Below.refl _ w1⟩)
                · obtain rfl := Option.some.inj hi
                  obtain ⟨gu, gh, gg⟩ := hdep ⟨51, .guard⟩ (by simp) rfl _ 173 rfl rfl
                  have gg : gu = .bool true := gg
                  subst gg
                  exact wpOp_yes rfl rfl rfl rfl gh (wp_call0 _ _ Try.func14 (by decide) (by intro hh; cases hh) _ rfl (HAW.out w1 hb1) (fun w' hb => ⟨_, rfl, rfl, hb⟩))
                · obtain rfl := Option.some.inj hi
                  obtain ⟨u173, h173, g173⟩ := hdep ⟨51, .data⟩ (by simp) rfl _ 173 rfl rfl
                  have g173 : u173 = .bool true := g173
                  subst g173
                  have e173 := eval_of h173
                  obtain ⟨u174, h174, g174⟩ := hdep ⟨52, .data⟩ (by simp) rfl _ 174 rfl rfl
                  have g174 : u174 = .bool true := g174
                  subst g174
                  have e174 := eval_of h174
                  exact wpOp_of rfl rfl (wp_run (v := .bool true) (w' := w1) (xpick rfl e173 e174 rfl) ⟨_, rfl, rfl, Below.refl _ w1⟩)
                · obtain rfl := Option.some.inj hi
                  obtain ⟨u175, h175, g175⟩ := hdep ⟨53, .data⟩ (by simp) rfl _ 175 rfl rfl
                  have g175 : u175 = .bool true := g175
                  subst g175
                  have e175 := eval_of h175
                  exact wpOp_of rfl rfl (wp_run (v := .bool true) (w' := w1) (xassign rfl e175) ⟨_, rfl, rfl, Below.refl _ w1⟩)
              · intro listed a w2' h hr
                have hl := all_listed (by kernel_rfl) h.lsize hr
                obtain ⟨v', h4, hv⟩ := h.done 54 _ 10 rfl rfl (hl 54 (by decide))
                have hv : v' = .bool true := hv
                subst hv
                have hb := h.below
                have hdf : a.defers = [] := h.defers
                clear hl hr h
                refine hK9 _ _ (wp_ret ?_)
                show bodyPost Try.prog Try.f5 (fun e w' => e = .returned (.bool true) ∧ Below w.heap.size w w') Exit.ret a w2'
                exact bodyPost_ret (v := .bool true) (res_reach h4) hdf ⟨rfl, HB0.out _ hb⟩

end Go.Proofs.Ytalhpdgpnfedkaa
