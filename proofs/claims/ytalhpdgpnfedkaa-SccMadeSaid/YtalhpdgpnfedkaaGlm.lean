/- The law SccMade. -/
import Derived.Test.YtalhpdgpnfedkaaGmk
import Derived.Test.YtalhpdgpnfedkaaGaw
import Derived.Test.YtalhpdgpnfedkaaGgh
import Derived.BigQuiet
namespace Go.Proofs.Ytalhpdgpnfedkaa
open Go.RowKit Go.Maps
set_option linter.unusedVariables false
set_option linter.unusedSimpArgs false

set_option maxRecDepth 100000 in
set_option maxHeartbeats 16000000 in
theorem made_law (a : Option Addr) (l c : Nat) (xs : List Nat) (kn ka kb : Nat) (w : World) {hi : Nat} (hkn : kn ≤ 255) (hka : ka ≤ 255) (hkb : kb ≤ 255) (hx : RowY 0 hi w a l xs) (hhi : hi ≤ w.heap.size) (hb : ∀ i, i < l → xs.getD i 0 ≤ 255) :
    Calls Try.prog 4 #[.slice a l c, .int .u8 (kn : Int), .int .u8 (ka : Int), .int .u8 (kb : Int)] w fun e w' => e = .returned (.bool true) ∧ Below w.heap.size w w' := by
  have HMK := Lib.hid (make_any a l c xs kn w hkn hx hhi hb)
  obtain ⟨k, hk⟩ : ∃ k, kn % 16 = k := ⟨_, rfl⟩
  rw [hk] at HMK
  have hk16 : k < 16 := by omega
  obtain ⟨i0, hi0, hz0, hz1, hz2⟩ := info_parts Try.info3
  have hmk : ∀ W : World, (Instr.makeSlice 30 (.int .i64 (k : Int)) (.int .i64 (k : Int))).run Try.prog W = .ok (.slice (some ⟨W.heap.size, 0, none⟩) k k) (W.alloc (.cells (List.replicate k (Value.int .i64 0)).toArray 3)) := fun W => by
    have h := run_make (P := Try.prog) W 30 3 i0 (.int .i64 0) Try.underlying30 hi0 hz0 .i64 .i64 (k : Int) (k : Int) (by omega) (by omega) (by rw [hz2]; omega) (by omega)
    rw [hz1] at h
    have hm : madeCells (Value.int .i64 0).cells (((k : Nat) : Int).toNat * 1) = (List.replicate k (Value.int .i64 0)).toArray := by
      apply Array.ext'
      have := toList_madeCells_one (Value.int .i64 0) k
      rw [show (Value.int .i64 0).cells = #[Value.int .i64 0] from rfl]
      simpa using this
    rw [hm] at h
    simpa using h
  obtain ⟨MB, hMB⟩ : ∃ MB, (List.replicate k (Value.int .i64 0)).toArray = MB := ⟨_, rfl⟩
  rw [hMB] at hmk
  have HMB := Lib.hid hMB
  clear hi0 hz0 hz1 hz2 hMB hx hb hhi hk
  go_enter Try.func4, Try.ntmps4
  go_wp2_with (first
    | (go_at_call 15; (with_reducible refine (HMK.out).mono ?_); rintro e w1 ⟨hb1, ag, cg, g, rfl, hgi, hgp⟩; have HB1 := Lib.hid hb1; have HGI := Lib.hid hgi; have HGP := Lib.hid hgp; have HOF := Lib.hid (of_any ag k cg g w1 hgi (Nat.le_refl _) (by omega)); clear hb1 hgi hgp HMK)
    | (go_at_call 10; (with_reducible refine (HOF.out).mono ?_); rintro e w3 ⟨hb3, al, cl, rfl, hgi3⟩; have HB3 := Lib.hid hb3; have HG3 := Lib.hid hgi3; clear hb3 hgi3 HOF))
  obtain ⟨Lg, hLg⟩ : ∃ Lg, grpL g = Lg := ⟨_, rfl⟩
  have HLG := Lib.hid hLg
  obtain ⟨m, hm⟩ : ∃ m, Lg.length = m := ⟨_, rfl⟩
  have HM := Lib.hid hm
  have hgk : g.length = k := HGP.out.1
  have HGK := Lib.hid hgk
  have hm16 : m ≤ 16 := by
    have h9 : (grpL g).length ≤ g.length := grpI_len
    rw [hLg, hm] at h9
    omega
  rw [hLg, hm] at HG3
  rw [hLg, hm]
  clear hLg hm hgk
  have hbx : Box (w3.alloc (.cells MB 3)) w3.heap.size 3 (intsOf (List.replicate k 0)) := by
    rw [← HMB.out]
    have e : List.replicate k (Value.int .i64 0) = intsOf (List.replicate k 0) := by simp [intsOf]
    rw [e]
    exact Box.new _ _ _
  have hba : Below w3.heap.size w3 (w3.alloc (.cells MB 3)) := (Below.refl _ _).alloc (Nat.le_refl _) _
  obtain ⟨w4, hw4⟩ : ∃ w4, w3.alloc (.cells MB 3) = w4 := ⟨_, rfl⟩
  rw [hw4] at hbx hba ⊢
  obtain ⟨p, hp⟩ : ∃ p, w3.heap.size = p := ⟨_, rfl⟩
  have HP := Lib.hid hp
  rw [hp] at hbx hba ⊢
  have HX4 := Lib.hid hbx
  have HB4 := Lib.hid hba
  have HC4 := Lib.hid (CI.zero Lg k)
  have HE : Hid (Eqv (mutB g) g.length) := mutB_eqv' g
  have HD : Hid (∀ i i', i < Lg.length → i' < Lg.length → ∀ v : Nat, (v : Int) ∈ rowG Lg i → (v : Int) ∈ rowG Lg i' → i = i') := by
    show ∀ i i', _
    rw [← HLG.out]
    intro i i' hi hi' v hv hv'
    have hvn : v < g.length := by obtain ⟨j, e, hj⟩ := grp_in hi hv; omega
    exact (grp_same HE.out hi hi' hv hv').2 (HE.out.rfl_ v hvn)
  have HIN : Hid (∀ i, i < m → ∀ v ∈ rowG Lg i, ∃ j : Nat, v = (j : Int) ∧ j < k) := by
    show ∀ i, _
    rw [← HM.out, ← HLG.out]
    intro i hi v hv
    obtain ⟨j, e, hj⟩ := grp_in hi hv
    exact ⟨j, e, by have := HGK.out; omega⟩
  have HFI : Hid (∀ i, i < m → ∃ r : Nat, r < k ∧ (rowG Lg i)[0]? = some (r : Int) ∧ (rowG Lg i).Pairwise (· < ·) ∧ ∀ i' r' : Nat, i' < i → (rowG Lg i')[0]? = some (r' : Int) → r' < r) := by
    show ∀ i, _
    rw [← HM.out, ← HLG.out, ← HGK.out]
    intro i hi
    obtain ⟨r, h1, h2, h3, h4⟩ := grp_first HE.out hi
    exact ⟨r, h1, h2, h3, fun i' r' q1 q2 => h4 i' r' q1 (Nat.lt_trans q1 hi) q2⟩
  have hp1 : w1.heap.size ≤ p := by rw [← hp]; exact HB3.out.size
  clear hw4 hbx hba hp hmk
  go_loopw [12, 13] (fun lv iv wr => ∃ (i : Nat) (C : List Nat) (la : Int), i ≤ m ∧ iv = .int .i64 (i : Int) ∧ lv = .int .i64 la ∧ Hid (-1 ≤ la ∧ ∀ r : Nat, (rowG Lg i)[0]? = some (r : Int) → i < m → la < (r : Int)) ∧ Hid (CI Lg k i 0 C) ∧ Hid (Box wr p 3 (intsOf C)) ∧ Hid (Below p w3 wr)) (fun _ iv _ => m - (intOf iv).toNat)
  case atStart => exact ⟨0, _, -1, Nat.zero_le _, rfl, rfl, Lib.hid ⟨Int.le_refl _, fun r _ _ => by omega⟩, HC4, HX4, HB4⟩
  case round =>
    clear HC4 HX4 HB4
    obtain ⟨i, C, la, hi1, rfl, rfl, HLA, HC, HX, HB⟩ := hrel
    by_cases hlt : i < m
    · have hg3 := HG3.out
      rw [HP.out] at hg3
      obtain ⟨gb, off, ai, ci, rfl, hgb, hcr0, hrow⟩ := hg3.row hlt
      obtain ⟨LL, hLL⟩ : ∃ LL, (rowG Lg i).length = LL := ⟨_, rfl⟩
      have hLs : LL ≤ 1000000 := by rw [← hLL]; exact hg3.2.2.1 i
      rw [hLL] at hcr0 hrow
      obtain ⟨r0, hr0k, hr0, hsort, hprev⟩ := HFI.out i hlt
      have hLpos : 0 < LL := by rw [← hLL]; exact (List.getElem?_eq_some_iff.1 hr0).1
      have hla : la < (r0 : Int) := HLA.out.2 r0 hr0 hlt
      obtain ⟨hrl, hrz⟩ := hrow
      obtain ⟨rb, ro, rfl, hrb1, hrb2, hrc⟩ := hrz.resolve_left (by omega)
      have T2 : ∀ W, Sem.run Try.prog (Instr.indexAt 22 (.slice (some ⟨gb, off, none⟩) m cl) (.int .i64 (i : Int))) W = .ok (.pointer (some ⟨gb, off + i, none⟩)) W := fun W => by go_simp
      have T0 : ∀ W, Sem.run Try.prog (Instr.indexAt 30 (.slice (some ⟨rb, ro, none⟩) LL ci) (.int .i64 0)) W = .ok (.pointer (some ⟨rb, ro, none⟩)) W := fun W => by go_simp
      have hcr := (HB.out.cell (p := ⟨gb, off + i, none⟩) hgb).trans hcr0
      have hc0 := hrc 0 hLpos
      have hg0 : (rowG Lg i).getD 0 0 = (r0 : Int) := by rw [List.getD_eq_getElem?_getD, hr0]; rfl
      rw [hg0, Nat.add_zero] at hc0
      have hc0' := (HB.out.cell (p := ⟨rb, ro, none⟩) hrb2).trans hc0
      have hpl := HX.out.lt
      have hgb1 : gb < wr.heap.size := by omega
      have hrb : rb < wr.heap.size := by omega
      have eL : ((LL : Int) == 0) = false := by simp; omega
      have eL2 : ¬ LL = 0 := by omega
      have eA : decide ((r0 : Int) ≤ la) = false := decide_eq_false (by omega)
      have HRC := Lib.hid hrc
      have HCR := Lib.hid hcr0
      have HLL := Lib.hid hLL
      have HSO := Lib.hid hsort
      have HLA2 : Hid (-1 ≤ (r0 : Int) ∧ ∀ r : Nat, (rowG Lg (i + 1))[0]? = some (r : Int) → i + 1 < m → (r0 : Int) < (r : Int)) := ⟨by omega, fun r h1 h2 => by
        obtain ⟨r1, _, h3, _, h4⟩ := HFI.out (i + 1) h2
        rw [h1] at h3
        have := h4 i r0 (by omega) hr0
        have := Option.some.inj h3
        omega⟩
      clear hrc hcr0 hLL hsort hprev hr0 hg0 hrl hrz hc0 hg3
      go_wp2_with fail
      clear hcr hc0' hgb1 hrb hpl
      go_loopw [14] (fun jv wx => ∃ (j : Nat) (C2 : List Nat), j ≤ LL ∧ jv = .int .i64 (j : Int) ∧ Hid (CI Lg k i j C2) ∧ Hid (Box wx p 3 (intsOf C2)) ∧ Hid (Below p w3 wx)) (fun jv _ => LL - (intOf jv).toNat)
      case atStart => exact ⟨0, C, Nat.zero_le _, rfl, HC, HX, HB⟩
      case round =>
        clear HC HX HB
        obtain ⟨j, C2, hj, rfl, HC, HX, HB⟩ := hrel
        rename World => wx
        have hpl := HX.out.lt
        have hcr := (HB.out.cell (p := ⟨gb, off + i, none⟩) hgb).trans HCR.out
        have hgb1 : gb < wx.heap.size := by omega
        by_cases hltj : j < LL
        · have hcp := (HB.out.cell (p := ⟨rb, ro + j, none⟩) hrb2).trans (HRC.out j hltj)
          obtain ⟨V, hV⟩ : ∃ V, (rowG Lg i).getD j 0 = V := ⟨_, rfl⟩
          rw [hV] at hcp
          have hpV : (rowG Lg i)[j]? = some V := by
            have hl := HLL.out
            rw [List.getElem?_eq_getElem (by rw [hl]; exact hltj)]
            rw [List.getD_eq_getElem?_getD, List.getElem?_eq_getElem (by rw [hl]; exact hltj)] at hV
            simpa using hV
          obtain ⟨v, rfl, hvk⟩ := HIN.out i hlt V (List.mem_of_getElem? hpV)
          have hrb : rb < wx.heap.size := by omega
          have T3 : ∀ W, Sem.run Try.prog (Instr.indexAt 30 (.slice (some ⟨rb, ro, none⟩) LL ci) (.int .i64 (j : Int))) W = .ok (.pointer (some ⟨rb, ro + j, none⟩)) W := fun W => by go_simp
          obtain ⟨hcv0, hCn⟩ := HC.out.next HD.out (by rw [HM.out]; exact hlt) HSO.out hpV hvk
          have HCN := Lib.hid hCn
          have hlen := HC.out.len
          have hcv := box_el HX.out (i := v) (by rw [hlen]; exact hvk)
          rw [hcv0] at hcv
          have hcv1 : wx.cell? ⟨p, v, none⟩ = some (.int .i64 0) := hcv
          have hfv := HX.out.frozen v
          have HX2 : Hid (∀ n : Nat, Box ((wx.drewN n).setCell ⟨p, v, none⟩ (.int .i64 1)) p 3 (intsOf (C2.set v 1))) := fun n => by
            rw [← intsOf_set]
            exact Box.set (w := wx.drewN n) HX.out v (.int .i64 1)
          have HB2 : Hid (∀ n : Nat, Below p w3 ((wx.drewN n).setCell ⟨p, v, none⟩ (.int .i64 1))) := fun n => (below_drewN HB.out n).setCell (p := ⟨p, v, none⟩) (Nat.le_refl _) _
          have e1 : decide ((v : Int) < 0) = false := decide_eq_false (by omega)
          have e2 : decide ((k : Int) ≤ (v : Int)) = false := decide_eq_false (by omega)
          have e2' : decide (k ≤ v) = false := decide_eq_false (by omega)
          have hrbp : rb ≠ p := by omega
          have hgbp : gb ≠ p := by omega
          by_cases hj0 : j = 0
          · have e4 : decide ((0 : Int) < (j : Int)) = false := decide_eq_false (by omega)
            have e4' : decide (0 < j) = false := decide_eq_false (by omega)
            clear hcv hV hpV hlen hcv0 hCn hj0
            go_wp2_with fail
            go_quiet (fail)
            go_wp2_with fail
            go_roundw
            case rel => exact ⟨j + 1, _, by omega, by go_num, HCN, Lib.hid (HX2.out _), Lib.hid (HB2.out _)⟩
            case measure => simp [intOf]; omega
          · obtain ⟨j1, hj1⟩ : ∃ j1, j - 1 = j1 := ⟨_, rfl⟩
            have hcq := (HB.out.cell (p := ⟨rb, ro + j1, none⟩) hrb2).trans (HRC.out j1 (by omega))
            obtain ⟨U, hU⟩ : ∃ U, (rowG Lg i).getD j1 0 = U := ⟨_, rfl⟩
            rw [hU] at hcq
            have hUv : U < (v : Int) := by
              have hl := HLL.out
              have h9 := List.pairwise_iff_getElem.1 HSO.out j1 j (by omega) (by omega) (by omega)
              have h10 := (List.getElem?_eq_some_iff.1 hpV).2
              rw [List.getD_eq_getElem?_getD, List.getElem?_eq_getElem (by omega)] at hU
              simp at hU
              omega
            have hwj : IntKind.i64.wrap ((j : Int) - 1) = (j1 : Int) := by rw [show (j : Int) - 1 = (j1 : Int) by omega]; exact IntWalk.i64_in _ (by omega)
            have T4 : ∀ W, Sem.run Try.prog (Instr.indexAt 30 (.slice (some ⟨rb, ro, none⟩) LL ci) (.int .i64 (j1 : Int))) W = .ok (.pointer (some ⟨rb, ro + j1, none⟩)) W := fun W => by
              have : j1 < LL := by omega
              go_simp
            have e3 : decide ((v : Int) ≤ U) = false := decide_eq_false (by omega)
            have e4 : decide ((0 : Int) < (j : Int)) = true := decide_eq_true (by omega)
            have e4' : decide (0 < j) = true := decide_eq_true (by omega)
            have hj1L : j1 < LL := by omega
            clear hcv hV hpV hlen hcv0 hCn hU hj1
            go_wp2_with fail
            go_quiet (fail)
            go_wp2_with fail
            go_roundw
            case rel => exact ⟨j + 1, _, by omega, by go_num, HCN, Lib.hid (HX2.out _), Lib.hid (HB2.out _)⟩
            case measure => simp [intOf]; omega
        · have hjl : j = LL := by omega
          have hge : ¬ ((j : Int) < (LL : Int)) := by omega
          have HC2 : Hid (CI Lg k (i + 1) 0 C2) := by
            have := HC.out
            rw [hjl, ← HLL.out] at this
            exact this.turn
          clear hjl
          go_wp2_with fail
          go_roundw
          case rel => exact ⟨i + 1, C2, _, by omega, by go_num, rfl, HLA2, HC2, HX, HB⟩
          case measure => simp [intOf]; omega
    · have him : i = m := by omega
      have hge : ¬ ((i : Int) < (m : Int)) := by omega
      have HONE : Hid (∀ v, v < k → el C v = 1) := fun v hv => by
        obtain ⟨i', h1, h2⟩ := grp_has HE.out (x := v) (by rw [HGK.out]; exact hv)
        have hLe : grpI (mutB g) g.length = Lg := HLG.out
        rw [hLe] at h1 h2
        exact HC.out.one v hv (.inl ⟨i', by rw [him, ← HM.out]; exact h1, h2⟩)
      have HCL := Lib.hid HC.out.len
      obtain ⟨wq, hwq⟩ : ∃ wq, wr = wq := ⟨_, rfl⟩
      subst hwq
      clear him
      go_wp2_with fail
      go_loopw [15] (fun iv wx => ∃ q : Nat, q ≤ k ∧ iv = .int .i64 (q : Int) ∧ Hid (Below wr.heap.size wr wx)) (fun iv _ => k - (intOf iv).toNat)
      case atStart => exact ⟨0, Nat.zero_le _, rfl, Lib.hid (Below.refl _ _)⟩
      case round =>
        obtain ⟨q, hq, rfl, HBq⟩ := hrel
        rename World => wx
        have hxq := HX.out.below HBq.out
        by_cases hltq : q < k
        · have hcq := box_el hxq (i := q) (by rw [HCL.out]; exact hltq)
          rw [HONE.out q hltq] at hcq
          have hcq1 : wx.cell? ⟨p, q, none⟩ = some (.int .i64 1) := hcq
          have hplq := hxq.lt
          clear hcq hxq
          go_wp2_with fail
          go_roundw
          case rel => exact ⟨q + 1, by omega, by go_num, HBq⟩
          case measure => simp [intOf]; omega
        · have hgeq : ¬ ((q : Int) < (k : Int)) := by omega
          have hbw : Below w1.heap.size w1 wx := (HB3.out.trans (HB.out.mono hp1)).trans (HBq.out.mono (Nat.le_trans (Nat.le_trans HB3.out.size (by rw [HP.out]; exact Nat.le_refl _)) HB.out.size))
          have HL0 := Lib.hid hbw
          obtain ⟨b, hb⟩ : ∃ b, rchB g (ka : Int) (kb : Int) = b := ⟨_, rfl⟩
          have HGR := Lib.hid (rgroups_any ag k cg g wx (HGI.out.below hbw (Nat.le_refl _)) hbw.size (by omega))
          rw [HLG.out, HM.out] at HGR
          have hl3 : Below w3.heap.size w3 wx := by rw [HP.out]; exact HB.out.trans (HBq.out.mono (Nat.le_of_lt HX.out.lt))
          have HL3 := Lib.hid hl3
          have HSM : Hid (∀ (W : World) (a2 : Option Addr) (c2 : Nat), Below wx.heap.size wx W → GI W.heap.size W a2 m Lg → Calls Try.prog 9 #[.slice al m cl, .slice a2 m c2] W fun e w' => e = .returned (.bool true) ∧ Below W.heap.size W w') := fun W a2 c2 h1 h2 => by
            have h3 : Below w3.heap.size w3 W := HL3.out.trans (h1.mono HL3.out.size)
            refine (same_any W Lg Lg al a2 m m cl c2 (HG3.out.below h3 (Nat.le_refl _)) h2 h3.size (Nat.le_refl _)).mono ?_
            rintro e w' ⟨rfl, h⟩
            exact ⟨by simp, h⟩
          have HRE : Hid (∀ W : World, Below wx.heap.size wx W → Calls Try.prog 12 #[.slice ag k cg, .int .i64 (ka : Int), .int .i64 (kb : Int)] W fun e w' => e = .returned (.bool b) ∧ Below W.heap.size W w') := fun W h => by
            have h9 := HL0.out.trans (h.mono HL0.out.size)
            have := reach_any ag k cg g ka kb W (HGI.out.below h9 (Nat.le_refl _)) h9.size (by omega)
            rwa [hb] at this
          have HRR : Hid (∀ W : World, Below wx.heap.size wx W → Calls Try.prog 13 #[.slice ag k cg, .int .i64 (ka : Int), .int .i64 (kb : Int)] W fun e w' => e = .returned (.bool b) ∧ Below W.heap.size W w') := fun W h => by
            have h9 := HL0.out.trans (h.mono HL0.out.size)
            have := rreach_any ag k cg g ka kb W (HGI.out.below h9 (Nat.le_refl _)) h9.size (by omega)
            rwa [hb] at this
          clear hxq hbw hl3 hb
          cases b with
          | true =>
            go_wp2_with (first
              | (go_at_call 11; (with_reducible refine (HGR.out).mono ?_); rintro e w5 ⟨hb5, a5, c5, rfl, hgi5⟩; have HB5 := Lib.hid hb5; have HG5 := Lib.hid hgi5; clear hb5 hgi5)
              | (go_at_call 9; (with_reducible refine (HSM.out _ _ _ HB5.out HG5.out).mono ?_); rintro e w6 ⟨rfl, hb6⟩; have HB6 := Lib.hid (HB5.out.trans (hb6.mono HB5.out.size)); clear hb6)
              | (go_at_call 12; (with_reducible refine (HRE.out _ HB6.out).mono ?_); rintro e w7 ⟨rfl, hb7⟩; have HB7 := Lib.hid (HB6.out.trans (hb7.mono HB6.out.size)); clear hb7)
              | (go_at_call 13; (with_reducible refine (HRR.out _ HB7.out).mono ?_); rintro e w8 ⟨rfl, hb8⟩; have HB8 := Lib.hid (HB7.out.trans (hb8.mono HB7.out.size)); clear hb8)
              | (go_at_call 14; (with_reducible refine (awake_any _).mono ?_); rintro e w9 ⟨rfl, hb9⟩; have HB9 := Lib.hid (HB8.out.trans (hb9.mono HB8.out.size)); clear hb9))
            go_ret
            exact ⟨rfl, (HB1.out.trans (HL0.out.mono HB1.out.size)).trans (HB9.out.mono (Nat.le_trans HB1.out.size HL0.out.size))⟩
          | false =>
            go_wp2_with (first
              | (go_at_call 11; (with_reducible refine (HGR.out).mono ?_); rintro e w5 ⟨hb5, a5, c5, rfl, hgi5⟩; have HB5 := Lib.hid hb5; have HG5 := Lib.hid hgi5; clear hb5 hgi5)
              | (go_at_call 9; (with_reducible refine (HSM.out _ _ _ HB5.out HG5.out).mono ?_); rintro e w6 ⟨rfl, hb6⟩; have HB6 := Lib.hid (HB5.out.trans (hb6.mono HB5.out.size)); clear hb6)
              | (go_at_call 12; (with_reducible refine (HRE.out _ HB6.out).mono ?_); rintro e w7 ⟨rfl, hb7⟩; have HB7 := Lib.hid (HB6.out.trans (hb7.mono HB6.out.size)); clear hb7)
              | (go_at_call 13; (with_reducible refine (HRR.out _ HB7.out).mono ?_); rintro e w8 ⟨rfl, hb8⟩; have HB8 := Lib.hid (HB7.out.trans (hb8.mono HB7.out.size)); clear hb8)
              | (go_at_call 14; (with_reducible refine (awake_any _).mono ?_); rintro e w9 ⟨rfl, hb9⟩; have HB9 := Lib.hid (HB8.out.trans (hb9.mono HB8.out.size)); clear hb9))
            go_ret
            exact ⟨rfl, (HB1.out.trans (HL0.out.mono HB1.out.size)).trans (HB9.out.mono (Nat.le_trans HB1.out.size HL0.out.size))⟩

end Go.Proofs.Ytalhpdgpnfedkaa
