/- The law WaveMade. -/
import Derived.Test.YtdbjmonboecfgaaVx
import Derived.Test.YtdbjmonboecfgaaGmk
import Derived.BigQuiet
namespace Go.Proofs.Ytdbjmonboecfgaa
open Go.RowKit Go.Maps
set_option linter.unusedVariables false
set_option linter.unusedSimpArgs false

def sumR (g : Gr) : Nat → Nat
  | 0 => 0
  | i + 1 => sumR g i + (rowG g i).length
def cntL (l : List Nat) (p : Nat) : Nat → Nat
  | 0 => 0
  | T + 1 => cntL l p T + (atLev l T p).length
theorem cntL_zero (l : List Nat) : ∀ T, cntL l 0 T = 0
  | 0 => rfl
  | T + 1 => by show cntL l 0 T + _ = 0; rw [cntL_zero l T]; simp [atLev, memI]
theorem cntL_succ (l : List Nat) (p : Nat) : ∀ T, cntL l (p + 1) T = cntL l p T + if el l p < T then 1 else 0
  | 0 => by simp [cntL]
  | T + 1 => by
    show cntL l (p + 1) T + _ = cntL l p T + _ + _
    rw [cntL_succ l p T, atLev_succ, List.length_append]
    by_cases e : el l p = T
    · subst e; simp; omega
    · by_cases e2 : el l p < T
      · simp [e, e2, show el l p < T + 1 by omega]; omega
      · simp [e, e2, show ¬ el l p < T + 1 by omega]
theorem cntL_all (l : List Nat) (T : Nat) : ∀ p, (∀ q, q < p → el l q < T) → cntL l p T = p
  | 0, _ => cntL_zero l T
  | p + 1, h => by
    rw [cntL_succ, cntL_all l T p fun q hq => h q (by omega), if_pos (h p (by omega))]
theorem sumR_waves {l : List Nat} : ∀ k, k ≤ topL l → sumR (wavesL l) k = cntL l l.length k
  | 0, _ => rfl
  | k + 1, h => by
    show sumR _ k + _ = cntL _ _ k + _
    rw [sumR_waves k (by omega), wavesL_row (by omega)]
theorem el_topL {l : List Nat} {q : Nat} (h : q < l.length) : el l q < topL l := by
  refine topL_lt ?_
  have : l[q]'h = el l q := by simp [el, List.getD, h]
  rw [← this]; exact List.getElem_mem h
theorem sumR_all (g : Gr) : sumR (wvL g) (wvL g).length = (grpL g).length := by
  have e : (wvL g).length = topL (lvL g) := wavesL_len _
  rw [e]
  show sumR (wavesL (lvL g)) _ = _
  rw [sumR_waves _ (Nat.le_refl _), cntL_all _ _ _ fun q hq => el_topL hq, lvL_len]
theorem sumR_le {g : Gr} {n : Nat} : ∀ {i : Nat}, i ≤ n → sumR g i ≤ sumR g n := fun {i} h => by
  induction n with
  | zero => have : i = 0 := by omega
            subst this; exact Nat.le_refl _
  | succ n ih =>
    by_cases e : i = n + 1
    · subst e; exact Nat.le_refl _
    · have := ih (by omega)
      show _ ≤ sumR g n + _
      omega
theorem wv_pos {g : Gr} {i : Nat} (hi : i < (wvL g).length) : 0 < (rowG (wvL g) i).length := by
  have hi2 : i < topL (lvL g) := by rw [show (wvL g).length = topL (lvL g) from wavesL_len _] at hi; exact hi
  have hr : rowG (wvL g) i = atLev (lvL g) i (lvL g).length := wavesL_row hi2
  rcases topL_at (lvL g) with q | ⟨v, hv, q⟩
  · omega
  · unfold lvL at hv
    obtain ⟨i0, h0, rfl⟩ := List.mem_map.1 hv
    rw [List.mem_range] at h0
    obtain ⟨j, h1, h2⟩ := lev_all (ranked g) (lvF g i0 - i) i0 h0 i (by show _ = lvF g i0; omega)
    rw [hr]
    refine List.length_pos_of_mem (mem_atLev.2 ⟨j, by rw [lvL_len]; exact h1, ?_, rfl⟩)
    rw [lvL_el h1]; exact h2
theorem wv_in {g : Gr} {i : Nat} (hi : i < (wvL g).length) {v : Int} (hv : v ∈ rowG (wvL g) i) : ∃ q : Nat, v = (q : Int) ∧ q < (grpL g).length ∧ el (lvL g) q = i := by
  have hi2 : i < topL (lvL g) := by rw [show (wvL g).length = topL (lvL g) from wavesL_len _] at hi; exact hi
  have hr : rowG (wvL g) i = atLev (lvL g) i (lvL g).length := wavesL_row hi2
  rw [hr] at hv
  obtain ⟨q, h1, h2, h3⟩ := mem_atLev.1 hv
  exact ⟨q, h3, by rw [lvL_len] at h1; exact h1, h2⟩

set_option maxRecDepth 100000 in
set_option maxHeartbeats 16000000 in
theorem wavemade_law (a : Option Addr) (l c : Nat) (xs : List Nat) (kn : Nat) (w : World) {hi : Nat} (hkn : kn ≤ 255) (hx : RowY 0 hi w a l xs) (hhi : hi ≤ w.heap.size) (hb : ∀ i, i < l → xs.getD i 0 ≤ 255) :
    Calls Try.prog 5 #[.slice a l c, .int .u8 (kn : Int)] w fun e w' => e = .returned (.bool true) ∧ Below w.heap.size w w' := by
  have HMK := Lib.hid (make_any a l c xs kn w hkn hx hhi hb)
  obtain ⟨n, hk⟩ : ∃ n, kn % 16 = n := ⟨_, rfl⟩
  rw [hk] at HMK
  have hn16 : n < 16 := by omega
  clear hx hb hhi hk
  go_enter Try.func5, Try.ntmps5
  go_upto_region 2 with (go_at_call 9; (with_reducible refine (HMK.out).mono ?_); rintro e w0 ⟨hb0, ag, cg, g, rfl, hgi, hgp⟩; have HB0 := Lib.hid hb0; have HGI := Lib.hid hgi; have HGP := Lib.hid hgp; clear hb0 hgi hgp HMK)
  obtain ⟨LV, hLV⟩ : ∃ LV, lvL g = LV := ⟨_, rfl⟩
  obtain ⟨WV, hWV⟩ : ∃ WV, wvL g = WV := ⟨_, rfl⟩
  obtain ⟨m, hm⟩ : ∃ m, (grpL g).length = m := ⟨_, rfl⟩
  obtain ⟨k, hk⟩ : ∃ k, WV.length = k := ⟨_, rfl⟩
  have HLN : Hid (LV.length = m) := by show _ = _; rw [← hLV, lvL_len]; exact hm
  have hm16 : m ≤ 16 := by
    have h9 : (grpL g).length ≤ g.length := grpI_len
    have := HGP.out.1
    omega
  have hk17 : k ≤ 17 := by
    have := wvL_len g
    rw [hWV, hk, hm] at this
    omega
  have HPOS : Hid (∀ i, i < k → 0 < (rowG WV i).length) := by show ∀ i, _; rw [← hk, ← hWV]; exact fun i hi => wv_pos hi
  have HINW : Hid (∀ i, i < k → ∀ v ∈ rowG WV i, ∃ q : Nat, v = (q : Int) ∧ q < m ∧ el LV q = i) := by
    show ∀ i, _
    rw [← hk, ← hWV, ← hLV, ← hm]
    exact fun i hi v hv => wv_in hi hv
  have HSUM : Hid (sumR WV k = m) := by show _ = _; rw [← hk, ← hWV, ← hm]; exact sumR_all g
  have HRM : Hid (∀ i, (rowG WV i).length ≤ m) := fun i => by rw [← hWV, ← hm]; exact wvL_row g i
  have HLV : Hid (∀ W, Below w0.heap.size w0 W → Calls Try.prog 15 #[.slice ag n cg] W fun e w' => Below W.heap.size W w' ∧ ∃ q, e = .returned (.slice (some ⟨q, 0, none⟩) m m) ∧ W.heap.size ≤ q ∧ Box w' q 3 (intsOf LV)) := fun W h => by
    have := levels_any ag n cg g W (HGI.out.below h (Nat.le_refl _)) h.size (by omega)
    rwa [hLV, hm] at this
  have HRL : Hid (∀ W, Below w0.heap.size w0 W → Calls Try.prog 16 #[.slice ag n cg] W fun e w' => Below W.heap.size W w' ∧ ∃ q, e = .returned (.slice (some ⟨q, 0, none⟩) m m) ∧ W.heap.size ≤ q ∧ Box w' q 3 (intsOf LV)) := fun W h => by
    have := rlevels_any ag n cg g W (HGI.out.below h (Nat.le_refl _)) h.size (by omega)
    rwa [hLV, hm] at this
  have HWV : Hid (∀ W, Below w0.heap.size w0 W → Calls Try.prog 17 #[.slice ag n cg] W fun e w' => Below W.heap.size W w' ∧ ∃ a c', e = .returned (.slice a k c') ∧ GI w'.heap.size w' a k WV) := fun W h => by
    have := waves_any ag n cg g W (HGI.out.below h (Nat.le_refl _)) h.size (by omega)
    rwa [hWV, hk] at this
  have HRW : Hid (∀ W, Below w0.heap.size w0 W → Calls Try.prog 18 #[.slice ag n cg] W fun e w' => Below W.heap.size W w' ∧ ∃ a c', e = .returned (.slice a k c') ∧ GI w'.heap.size w' a k WV) := fun W h => by
    have := rwaves_any ag n cg g W (HGI.out.below h (Nat.le_refl _)) h.size (by omega)
    rwa [hWV, hk] at this
  have HGR : Hid (∀ W, Below w0.heap.size w0 W → Calls Try.prog 20 #[.slice ag n cg] W fun e w' => Below W.heap.size W w' ∧ ∃ a c', e = .returned (.slice a m c')) := fun W h => by
    have := rgroups_any ag n cg g W (HGI.out.below h (Nat.le_refl _)) h.size (by omega)
    rw [hm] at this
    refine this.mono ?_
    rintro e w' ⟨h1, a, c', h2, _⟩
    exact ⟨h1, a, c', h2⟩
  clear hLV hWV hm hk
  go_wp2_with (first
    | (go_at_call 15; (with_reducible refine (HLV.out _ (Below.refl _ _)).mono ?_); rintro e w1 ⟨hb1, q1, rfl, _, hx1⟩; have HB1 := Lib.hid hb1; have HX1 := Lib.hid hx1; clear hb1 hx1)
    | (go_at_call 17; (with_reducible refine (HWV.out _ HB1.out).mono ?_); rintro e w3 ⟨hb3, a3, c3, rfl, hgi3⟩; have HB3 := Lib.hid (HB1.out.trans (hb3.mono HB1.out.size)); have HX3 := Lib.hid (HX1.out.below hb3); have HG3 := Lib.hid hgi3; clear hb3 hgi3))
  clear HX1
  go_loopw [8, 9] (fun av iv wr => ∃ i : Nat, i ≤ k ∧ iv = .int .i64 (i : Int) ∧ av = .int .i64 (sumR WV i : Int) ∧ w3 = wr) (fun _ iv _ => k - (intOf iv).toNat)
  case atStart => exact ⟨0, Nat.zero_le _, rfl, rfl, rfl⟩
  case round =>
    obtain ⟨i, hi1, rfl, rfl, hwr⟩ := hrel
    subst hwr
    by_cases hlt : i < k
    · obtain ⟨gb, off, ai, ci, rfl, hgb, hcr, hrow⟩ := HG3.out.row hlt
      obtain ⟨LL, hLL⟩ : ∃ LL, (rowG WV i).length = LL := ⟨_, rfl⟩
      have hLs : LL ≤ 16 := by have := HRM.out i; omega
      have hL0 : 0 < LL := by rw [← hLL]; exact HPOS.out i hlt
      have hsum : sumR WV (i + 1) = sumR WV i + LL := by rw [← hLL]; rfl
      have hsm : sumR WV (i + 1) ≤ 16 := by
        have := sumR_le (g := WV) (show i + 1 ≤ k by omega)
        rw [HSUM.out] at this
        omega
      rw [hLL] at hcr hrow
      obtain ⟨S, hS⟩ : ∃ S, sumR WV i = S := ⟨_, rfl⟩
      obtain ⟨S1, hS1⟩ : ∃ S1, sumR WV (i + 1) = S1 := ⟨_, rfl⟩
      rw [hS1] at hsm
      rw [hS, hS1] at hsum
      have HS1 := Lib.hid hS1
      rw [hS]
      have eL : ((LL : Int) == 0) = false := by simp; omega
      have T2 : ∀ W, Sem.run Try.prog (Instr.indexAt 23 (.slice (some ⟨gb, off, none⟩) k c3) (.int .i64 (i : Int))) W = .ok (.pointer (some ⟨gb, off + i, none⟩)) W := fun W => by go_simp
      have hwS : IntKind.i64.wrap ((S : Int) + (LL : Int)) = (S1 : Int) := by rw [show (S : Int) + (LL : Int) = (S1 : Int) by omega]; exact IntWalk.i64_in _ (by omega)
      obtain ⟨hrl, hrz⟩ := hrow
      obtain ⟨rb, ro, rfl, _, hrb, hrc⟩ := hrz.resolve_left (by omega)
      have HRC := Lib.hid hrc
      have HLL := Lib.hid hLL
      clear hrl hrz hrc hLL hS hS1 hsum
      go_wp2_with fail
      go_loopw [10] (fun jv wx => ∃ j : Nat, j ≤ LL ∧ jv = .int .i64 (j : Int) ∧ w3 = wx) (fun jv _ => LL - (intOf jv).toNat)
      case atStart => exact ⟨0, Nat.zero_le _, rfl, rfl⟩
      case round =>
        obtain ⟨j, hj, rfl, hwx⟩ := hrel
        subst hwx
        by_cases hltj : j < LL
        · have hcj := HRC.out j hltj
          obtain ⟨V, hV⟩ : ∃ V, (rowG WV i).getD j 0 = V := ⟨_, rfl⟩
          rw [hV] at hcj
          have hpV : (rowG WV i)[j]? = some V := by
            have hl := HLL.out
            rw [List.getElem?_eq_getElem (by rw [hl]; exact hltj)]
            rw [List.getD_eq_getElem?_getD, List.getElem?_eq_getElem (by rw [hl]; exact hltj)] at hV
            simpa using hV
          obtain ⟨v, rfl, hvm, hlv⟩ := HINW.out i hlt V (List.mem_of_getElem? hpV)
          have cv := box_el HX3.out (i := v) (by rw [HLN.out]; exact hvm)
          rw [hlv] at cv
          have hql := HX3.out.lt
          have T3 : ∀ W, Sem.run Try.prog (Instr.indexAt 26 (.slice (some ⟨rb, ro, none⟩) LL ci) (.int .i64 (j : Int))) W = .ok (.pointer (some ⟨rb, ro + j, none⟩)) W := fun W => by go_simp
          have e1 : decide ((v : Int) < 0) = false := decide_eq_false (by omega)
          have e2 : decide ((m : Int) ≤ (v : Int)) = false := decide_eq_false (by omega)
          have e2' : decide (m ≤ v) = false := decide_eq_false (by omega)
          clear hV hpV hlv
          go_wp2_with fail
          go_roundw
          case rel => exact ⟨j + 1, by omega, by go_num, by first | rfl | trivial⟩
          case measure => simp [intOf]; omega
        · have hge : ¬ ((j : Int) < (LL : Int)) := by omega
          go_wp2_with fail
          go_roundw
          case rel => exact ⟨i + 1, by omega, by go_num, by rw [HS1.out], by first | rfl | trivial⟩
          case measure => simp [intOf]; omega
    · have him : i = k := by omega
      subst him
      rw [HSUM.out]
      have hge : ¬ ((i : Int) < (i : Int)) := by omega
      go_wp2_with (first
        | (go_at_call 16; (with_reducible refine (HRL.out _ HB3.out).mono ?_); rintro e w4 ⟨hb4, q4, rfl, _, hx4⟩; have HB4 := Lib.hid (HB3.out.trans (hb4.mono HB3.out.size)); have HIN := Lib.hid (ints_any (some ⟨q1, 0, none⟩) (some ⟨q4, 0, none⟩) m m m m _ _ w4 (box_row (HX3.out.below hb4) HLN.out) (box_row hx4 HLN.out) (by omega)); have HL34 := Lib.hid hb4; clear hb4 hx4)
        | (go_at_call 13; (with_reducible refine (HIN.out).mono ?_); simp only [decide_true]; rintro e w5 ⟨rfl, k5, rfl⟩; have HB5 := Lib.hid (below_drewN HB4.out k5); have HL35 := Lib.hid (below_drewN HL34.out k5); clear HIN)
        | (go_at_call 18; (with_reducible refine (HRW.out _ HB5.out).mono ?_); rintro e w6 ⟨hb6, a6, c6, rfl, hgi6⟩; have HB6 := Lib.hid (HB5.out.trans (hb6.mono HB5.out.size)); have hl36 := HL35.out.trans (hb6.mono HL35.out.size); have HSM := Lib.hid (same_any w6 WV WV a3 a6 i i c3 c6 (HG3.out.below hl36 (Nat.le_refl _)) hgi6 hl36.size (Nat.le_refl _)); clear hb6 hgi6 hl36)
        | (go_at_call 12; (with_reducible refine (HSM.out).mono ?_); simp only [decide_true]; rintro e w7 ⟨rfl, hb7⟩; have HB7 := Lib.hid (HB6.out.trans (hb7.mono HB6.out.size)); clear hb7)
        | (go_at_call 20; (with_reducible refine (HGR.out _ HB7.out).mono ?_); rintro e w8 ⟨hb8, a8, c8, rfl⟩; have HB8 := Lib.hid (HB7.out.trans (hb8.mono HB7.out.size)); clear hb8)
        | (go_at_call 19; (with_reducible refine (awake6_any _).mono ?_); rintro e w9 ⟨rfl, hb9⟩; have HB9 := Lib.hid (HB8.out.trans (hb9.mono HB8.out.size)); clear hb9))
      go_ret
      exact ⟨rfl, HB0.out.trans (HB9.out.mono HB0.out.size)⟩

end Go.Proofs.Ytdbjmonboecfgaa
