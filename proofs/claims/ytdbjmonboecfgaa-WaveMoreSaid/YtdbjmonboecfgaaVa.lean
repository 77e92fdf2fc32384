/- Package wave: places, ends, add. -/
import Derived.Test.YtdbjmonboecfgaaVk
import Derived.Deep.RegionLaw
import Derived.BigRegion
import Derived.Deep.CutRange
import Derived.Deep.DeepCutAuto
import Derived.BigQuiet
namespace Go.Proofs.Ytdbjmonboecfgaa
open Go.RowKit Go.Maps
set_option linter.unusedVariables false
set_option linter.unusedSimpArgs false

set_option maxRecDepth 100000 in
set_option maxHeartbeats 4000000 in
theorem places_any {hi : Nat} (ag : Option Addr) (n cg : Nat) (g : Gr) (w : World) (hg : GI hi w ag n g) (hh : hi ≤ w.heap.size) (hn : n ≤ 10000) :
    Calls Try.prog 31 #[.slice ag n cg] w fun e w' => Below w.heap.size w w' ∧ ∃ q, e = .returned (.tuple #[.slice (some ⟨q, 0, none⟩) n n, .int .i64 ((grpL g).length : Int)]) ∧ w.heap.size ≤ q ∧ Box w' q 3 (intsOf (gofL g)) := by
  have HGN := Lib.hid hg.1
  have HOF := Lib.hid (of_any ag n cg g w hg hh hn)
  obtain ⟨i0, hi0, hz0, hz1, hz2⟩ := info_parts Try.info3
  have hmk : ∀ W : World, (Instr.makeSlice 26 (.int .i64 (n : Int)) (.int .i64 (n : Int))).run Try.prog W = .ok (.slice (some ⟨W.heap.size, 0, none⟩) n n) (W.alloc (.cells (List.replicate n (Value.int .i64 0)).toArray 3)) := fun W => by
    have h := run_make (P := Try.prog) W 26 3 i0 (.int .i64 0) Try.underlying26 hi0 hz0 .i64 .i64 (n : Int) (n : Int) (by omega) (by omega) (by rw [hz2]; omega) (by omega)
    rw [hz1] at h
    have hm : madeCells (Value.int .i64 0).cells (((n : Nat) : Int).toNat * 1) = (List.replicate n (Value.int .i64 0)).toArray := by
      apply Array.ext'
      have := toList_madeCells_one (Value.int .i64 0) n
      rw [show (Value.int .i64 0).cells = #[Value.int .i64 0] from rfl]
      simpa using this
    rw [hm] at h
    simpa using h
  obtain ⟨MB, hMB⟩ : ∃ MB, (List.replicate n (Value.int .i64 0)).toArray = MB := ⟨_, rfl⟩
  rw [hMB] at hmk
  have HMB := Lib.hid hMB
  clear hi0 hz0 hz1 hz2 hMB hg hh
  go_enter Try.func31, Try.ntmps31
  go_wp2_with (go_at_call 11; (with_reducible refine (HOF.out).mono ?_); rintro e w3 ⟨hb3, al, cl, rfl, hgi3⟩; have HB3 := Lib.hid hb3; have HG3 := Lib.hid hgi3; clear hb3 hgi3 HOF)
  obtain ⟨Lg, hLg⟩ : ∃ Lg, grpL g = Lg := ⟨_, rfl⟩
  have HLG := Lib.hid hLg
  obtain ⟨m, hm⟩ : ∃ m, Lg.length = m := ⟨_, rfl⟩
  have HM := Lib.hid hm
  have hmn : m ≤ 10000 := by
    have h9 : (grpL g).length ≤ g.length := grpI_len
    rw [hLg, hm] at h9
    have := HGN.out
    omega
  rw [hLg, hm] at HG3 ⊢
  clear hLg hm
  have hbx : Box (w3.alloc (.cells MB 3)) w3.heap.size 3 (intsOf (List.replicate n 0)) := by
    rw [← HMB.out]
    have e : List.replicate n (Value.int .i64 0) = intsOf (List.replicate n 0) := by simp [intsOf]
    rw [e]
    exact Box.new _ _ _
  have hba : Below w3.heap.size w3 (w3.alloc (.cells MB 3)) := (Below.refl _ _).alloc (Nat.le_refl _) _
  obtain ⟨w4, hw4⟩ : ∃ w4, w3.alloc (.cells MB 3) = w4 := ⟨_, rfl⟩
  rw [hw4] at hbx hba ⊢
  obtain ⟨p, hp⟩ : ∃ p, w3.heap.size = p := ⟨_, rfl⟩
  have HP := Lib.hid hp
  rw [hp] at hbx hba ⊢
  have HX4 := Lib.hid hbx
  have HB4 := Lib.hid hba
  have HC4 := Lib.hid (OI.zero Lg n)
  have HE : Hid (Eqv (mutB g) g.length) := mutB_eqv' g
  have HD : Hid (∀ i i', i < Lg.length → i' < Lg.length → ∀ v : Nat, (v : Int) ∈ rowG Lg i → (v : Int) ∈ rowG Lg i' → i = i') := by
    show ∀ i i', _
    rw [← HLG.out]
    intro i i' hi hi' v hv hv'
    have hvn : v < g.length := by obtain ⟨j, e, hj⟩ := grp_in hi hv; omega
    exact (grp_same HE.out hi hi' hv hv').2 (HE.out.rfl_ v hvn)
  have HIN : Hid (∀ i, i < m → ∀ v ∈ rowG Lg i, ∃ j : Nat, v = (j : Int) ∧ j < n) := by
    show ∀ i, _
    rw [← HM.out, ← HLG.out]
    intro i hi v hv
    obtain ⟨j, e, hj⟩ := grp_in hi hv
    exact ⟨j, e, by have := HGN.out; omega⟩
  have hp1 : w.heap.size ≤ p := by rw [← hp]; exact HB3.out.size
  clear hw4 hbx hba hp hmk
  go_wp2_with fail
  go_loopw [16] (fun iv wr => ∃ (i : Nat) (C : List Nat), i ≤ m ∧ iv = .int .i64 (i : Int) ∧ Hid (OI Lg n i 0 C) ∧ Hid (Box wr p 3 (intsOf C)) ∧ Hid (Below p w3 wr)) (fun iv _ => m - (intOf iv).toNat)
  case atStart => exact ⟨0, _, Nat.zero_le _, rfl, HC4, HX4, HB4⟩
  case round =>
    clear HC4 HX4 HB4
    obtain ⟨i, C, hi1, rfl, HC, HX, HB⟩ := hrel
    by_cases hlt : i < m
    · have hg3 := HG3.out
      rw [HP.out] at hg3
      obtain ⟨gb, off, ai, ci, rfl, hgb, hcr0, hrow⟩ := hg3.row hlt
      obtain ⟨LL, hLL⟩ : ∃ LL, (rowG Lg i).length = LL := ⟨_, rfl⟩
      have hLs : LL ≤ 1000000 := by rw [← hLL]; exact hg3.2.2.1 i
      rw [hLL] at hcr0 hrow
      have T2 : ∀ W, Sem.run Try.prog (Instr.indexAt 23 (.slice (some ⟨gb, off, none⟩) m cl) (.int .i64 (i : Int))) W = .ok (.pointer (some ⟨gb, off + i, none⟩)) W := fun W => by go_simp
      have hcr := (HB.out.cell (p := ⟨gb, off + i, none⟩) hgb).trans hcr0
      have hgb1 : gb < wr.heap.size := by have := HX.out.lt; omega
      have HRW := Lib.hid hrow
      have HLL := Lib.hid hLL
      clear hcr0 hLL hrow hg3
      go_wp2_with fail
      clear hcr hgb1
      go_loopw [23] (fun jv wx => ∃ (j : Nat) (C2 : List Nat), j ≤ LL ∧ jv = .int .i64 (j : Int) ∧ Hid (OI Lg n i j C2) ∧ Hid (Box wx p 3 (intsOf C2)) ∧ Hid (Below p w3 wx)) (fun jv _ => LL - (intOf jv).toNat)
      case atStart => exact ⟨0, C, Nat.zero_le _, rfl, HC, HX, HB⟩
      case round =>
        clear HC HX HB
        obtain ⟨j, C2, hj, rfl, HC, HX, HB⟩ := hrel
        rename World => wx
        have hpl := HX.out.lt
        by_cases hltj : j < LL
        · obtain ⟨hrl, hrz⟩ := HRW.out
          obtain ⟨rb, ro, rfl, hrb1, hrb2, hrc⟩ := hrz.resolve_left (by omega)
          have hcp := (HB.out.cell (p := ⟨rb, ro + j, none⟩) hrb2).trans (hrc j hltj)
          obtain ⟨V, hV⟩ : ∃ V, (rowG Lg i).getD j 0 = V := ⟨_, rfl⟩
          rw [hV] at hcp
          have hpV : (rowG Lg i)[j]? = some V := by
            have hl := HLL.out
            rw [List.getElem?_eq_getElem (by rw [hl]; exact hltj)]
            rw [List.getD_eq_getElem?_getD, List.getElem?_eq_getElem (by rw [hl]; exact hltj)] at hV
            simpa using hV
          obtain ⟨v, rfl, hvk⟩ := HIN.out i hlt V (List.mem_of_getElem? hpV)
          have hrb : rb < wx.heap.size := by omega
          have T3 : ∀ W, Sem.run Try.prog (Instr.indexAt 26 (.slice (some ⟨rb, ro, none⟩) LL ci) (.int .i64 (j : Int))) W = .ok (.pointer (some ⟨rb, ro + j, none⟩)) W := fun W => by go_simp
          have HCN := Lib.hid (HC.out.next HD.out (by rw [HM.out]; exact hlt) hpV hvk)
          have hlen := HC.out.len
          have hcv := box_el HX.out (i := v) (by rw [hlen]; exact hvk)
          have hfv := HX.out.frozen v
          have HX2 : Hid (Box (wx.setCell ⟨p, v, none⟩ (.int .i64 (i : Int))) p 3 (intsOf (C2.set v i))) := by
            show Box _ _ _ _
            rw [← intsOf_set]
            exact Box.set HX.out v (.int .i64 (i : Int))
          have HB2 : Hid (Below p w3 (wx.setCell ⟨p, v, none⟩ (.int .i64 (i : Int)))) := HB.out.setCell (p := ⟨p, v, none⟩) (Nat.le_refl _) _
          clear hV hpV hlen hrl hrz hrc
          go_wp2_with fail
          go_roundw
          case rel => exact ⟨j + 1, _, by omega, by go_num, HCN, HX2, HB2⟩
          case measure => simp [intOf]; omega
        · have hjl : j = LL := by omega
          have hge : ¬ ((j : Int) < (LL : Int)) := by omega
          have HC2 : Hid (OI Lg n (i + 1) 0 C2) := by
            have := HC.out
            rw [hjl, ← HLL.out] at this
            exact this.turn
          clear hjl
          go_wp2_with fail
          go_roundw
          case rel => exact ⟨i + 1, C2, by omega, by go_num, HC2, HX, HB⟩
          case measure => simp [intOf]; omega
    · have him : i = m := by omega
      have hge : ¬ ((i : Int) < (m : Int)) := by omega
      have HDN : Hid (C = gofL g) := by
        have h9 := HC.out
        rw [him] at h9
        refine OI.done ?_
        rw [HGN.out, HLG.out, HM.out]
        exact h9
      have HBW : Hid (Below w.heap.size w wr) := HB3.out.trans (HB.out.mono hp1)
      clear him
      go_wp2_with fail
      have hx := HX.out
      rw [HDN.out] at hx
      refine bodyPost_ret (v := .tuple #[.slice (some ⟨p, 0, none⟩) n n, .int .i64 (m : Int)]) (by simp only [results, Try.results31]; go_simp) rfl ?_
      exact ⟨HBW.out, p, by rw [HLG.out, HM.out], hp1, hx⟩

def endsK (P : PL) (k : Nat) : List Nat := (List.range k).filter fun s => leftN P s == 0
theorem endsK_succ (P : PL) (k : Nat) : endsK P (k + 1) = endsK P k ++ if leftN P k = 0 then [k] else [] := by
  unfold endsK
  rw [List.range_succ, List.filter_append]
  congr 1
  by_cases h : leftN P k = 0 <;> simp [h]
theorem endsK_len (P : PL) (k : Nat) : (endsK P k).length ≤ k := by
  unfold endsK; exact Nat.le_trans (List.length_filter_le _ _) (by simp)

set_option maxRecDepth 100000 in
set_option maxHeartbeats 4000000 in
theorem ends_any (fv : Value) (lo m : Nat) (P : PL) (w : World) (hx : Box w lo 3 (intsOf (leftL m P))) (hm : m ≤ 10000) :
    Calls Try.prog 26 #[.agg #[fv, .slice (some ⟨lo, 0, none⟩) m m]] w fun e w' => Below w.heap.size w w' ∧ ∃ v, e = .returned v ∧ w'.ownsRow w.heap.size 3 1 v (endsL m P).length (intsOf (endsL m P)) := by
  have HX := Lib.hid hx
  obtain ⟨i0, hi0, hz0, hz1, hz2⟩ := info_parts Try.info3
  have HL0 : Hid ((w.alloc (.cells #[fv, .slice (some ⟨lo, 0, none⟩) m m] 42)).ownsRow w.heap.size 3 1 (.slice none 0 0) (endsK P 0).length (intsOf (endsK P 0))) := World.ownsRow_nil _ _ _ _
  have HB0 : Hid (Below w.heap.size w (w.alloc (.cells #[fv, .slice (some ⟨lo, 0, none⟩) m m] 42))) := (Below.refl _ _).alloc (Nat.le_refl _) _
  have hlw := hx.lt
  clear hx
  go_enter Try.func26, Try.ntmps26
  go_wp2_with fail
  go_loopw [3, 9] (fun lv iv wr => ∃ k : Nat, k ≤ m ∧ iv = .int .i64 (k : Int) ∧ Hid (wr.ownsRow w.heap.size 3 1 lv (endsK P k).length (intsOf (endsK P k))) ∧ Hid (Below w.heap.size w wr)) (fun _ iv _ => m - (intOf iv).toNat)
  case atStart => exact ⟨0, Nat.zero_le _, rfl, HL0, HB0⟩
  case round =>
    clear HL0 HB0
    obtain ⟨k, hk, rfl, HL, HB⟩ := hrel
    have hsz := HB.out.size
    have hL := HL.out
    obtain ⟨ll, hll⟩ : ∃ ll, (endsK P k).length = ll := ⟨_, rfl⟩
    have hlk : ll ≤ k := by rw [← hll]; exact endsK_len P k
    rw [hll] at hL
    obtain ⟨lva, lvc, rfl⟩ := own_shape hL
    by_cases hlt : k < m
    · have hck := box_el (HX.out.below HB.out) (i := k) (by rw [leftL_len (P := P)]; exact hlt)
      rw [leftL_el hlt] at hck
      have hlo : lo < wr.heap.size := by omega
      by_cases h0 : leftN P k = 0
      · rw [h0] at hck
        have hck0 : wr.cell? ⟨lo, k, none⟩ = some (.int .i64 0) := hck
        have HE : Hid (endsK P (k + 1) = endsK P k ++ [k]) := by show _ = _; rw [endsK_succ, if_pos h0]
        have HLO := Lib.hid (ownsRow_lo hL)
        have HL2 := Lib.hid hL
        have HLL := Lib.hid hll
        clear h0 hL hll hck
        go_wp2_with (at_builtin; refine wpList_append_lies _ rfl _ _ 26 rfl w.heap.size 3 i0 (.int .i64 0) 1 8 Try.underlying26 hi0 hz0 hz1 hz2 rfl (by decide) _ ll (intsOf (endsK P k)) rfl (HL2.out.alloc _) ⟨wr.heap.size, 0, none⟩ 1 1 [.int .i64 (k : Int)] rfl rfl (news_at (cs := [.int .i64 (k : Int)]) rfl) (by simp [Value.oneCell']) (by decide) ?c3 ?c4 ?c5 _ rfl ?_)
        case c3 => unfold maxLen; omega
        case c4 => omega
        case c5 => first | omega | (simp; omega)
        intro g9 cap9 w9 hown9 hgr9 hat9 hlt9
        have HL9 : Hid (w9.ownsRow w.heap.size 3 1 (.slice (some ⟨g9, 0, none⟩) (ll + 1) cap9) (endsK P (k + 1)).length (intsOf (endsK P (k + 1)))) := by
          show World.ownsRow _ _ _ _ _ _ _
          rw [HE.out]
          have e : (endsK P k ++ [k]).length = ll + 1 := by rw [List.length_append, HLL.out]; rfl
          rw [e]
          simpa [intsOf] using hown9
        have HB9 : Hid (Below w.heap.size w w9) := (HB.out.alloc hsz _).grown hgr9 (by rw [World.size_alloc]; omega) fun p hp => (HLO.out p hp).1
        clear hown9 hgr9 hat9
        go_wp2_with fail
        go_roundw
        case rel => exact ⟨k + 1, by omega, by go_num, HL9, HB9⟩
        case measure => simp [intOf]; omega
      · have HE : Hid (endsK P (k + 1) = endsK P k) := by show _ = _; rw [endsK_succ, if_neg h0, List.append_nil]
        obtain ⟨v, hv⟩ : ∃ v, leftN P k = v := ⟨_, rfl⟩
        rw [hv] at hck h0
        have hv0 : ((v : Int) == 0) = false := by simp; omega
        clear hv hL hll
        go_wp2_with fail
        go_roundw
        case rel => exact ⟨k + 1, by omega, by go_num, by rw [HE.out]; exact HL, HB⟩
        case measure => simp [intOf]; omega
    · have hkm : k = m := by omega
      have hge : ¬ ((k : Int) < (m : Int)) := by omega
      clear hL hll
      subst hkm
      go_wp2_with fail
      go_ret
      exact ⟨HB.out, _, rfl, HL.out⟩

end Go.Proofs.Ytdbjmonboecfgaa
