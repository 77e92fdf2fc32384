/- The walk of the law LexCovers: it returns true and changes nothing that was there. -/
import Derived.Test.YtdhkcbkeehameaaLexcm
import Derived.Test.YtdhkcbkeehameaaLexb
import Derived.Laws.DeepStrings4
namespace Go.Proofs.Ytdhkcbkeehameaa
open Go.RowKit
set_option linter.unusedVariables false
set_option linter.unusedSimpArgs false

theorem below_of_drewN {B : Nat} {w w' : World} {m : Nat} (h : Below B (w.drewN m) w') : Below B w w' := ⟨h.os, h.tape, h.output, h.size, h.block⟩
theorem dc_len (s : ByteArray) (e : Nat) : (Dc s e).length = s.size - e := by unfold Dc; rw [List.length_drop, len_data]
theorem cov_cons {s : ByteArray} {e : Nat} {t : Tk} {r : List Tk} (h : Cov (Dc s e) e (t :: r)) : ∃ (p : Nat) (tw : Tw), tokL (Dc s p) = some tw ∧ t = tw.at p ∧ e ≤ p ∧ p < s.size ∧ lexL (s.extract e p).data.toList 0 = .ok [] ∧ Cov (Dc s (p + tw.w)) (p + tw.w) r := by
  obtain ⟨k, tw, h1, h2, h3, h4, h5⟩ := h
  rw [dc_len] at h3
  refine ⟨e + k, tw, ?_, h2, by omega, by omega, ?_, ?_⟩
  · unfold Dc at h1 ⊢; rwa [List.drop_drop] at h1
  · rw [ext_data, show e + k - e = k by omega]; exact h4
  · unfold Dc at h5 ⊢
    rw [List.drop_drop] at h5
    rw [Nat.add_assoc]; exact h5

set_option maxRecDepth 100000 in
set_option maxHeartbeats 4000000 in
theorem covers_law (a : Option Addr) (n1 c1 : Nat) (bs : List Nat) (w : World) (hr : RowY 0 w.heap.size w a n1 bs) (hb : ∀ i, i < n1 → bs.getD i 0 ≤ 255) (hn1 : n1 ≤ 9223372036854775807) :
    Calls Try.prog 8 #[.slice a n1 c1] w fun e w' => e = .returned (.bool true) ∧ Below w.heap.size w w' := by
  have HW := Lib.hid (words_any a n1 c1 bs w hr hb hn1)
  obtain ⟨s, hs⟩ : ∃ s, strB (textL bs) = s := ⟨_, rfl⟩
  rw [hs] at HW
  have hs2 : s.size ≤ 2000 := by rw [← hs, strB_size]; exact textL_len _
  clear hs hr hb
  go_enter Try.func8, Try.ntmps8
  go_wp2_with fail
  refine (HW.out).mono ?_
  rintro e w0 ⟨rfl, hb0⟩
  have HB0 := Lib.hid hb0
  clear hb0 HW
  go_wp2_with fail
  refine (t_lex s w0 (by omega)).mono ?_
  rintro e w1 ⟨v1, E1, A1, rfl, ho1, hb1⟩
  have HB1 := Lib.hid (HB0.out.trans (hb1.mono HB0.out.size))
  clear hb1 HB0
  rcases Lx.cases (lexL s.data.toList 0) with ⟨i, hx⟩ | ⟨ts, hx⟩
  · obtain ⟨rfl, rfl, rfl⟩ := ho1.of_bad hx
    have hi := lexL_bad_le hx
    rw [len_data] at hi
    clear ho1 hx
    go_wp2_with (first | (go_at_call 13; refine (num_any _ _).mono ?_; rintro e w' ⟨rfl, hw⟩; have hw := hw.symm; subst hw) | (go_at_call 9; refine (awake9 _).mono ?_; rintro e w' ⟨rfl, hb⟩))
    go_ret
    exact ⟨rfl, below_nxt HB1.out hb (Nat.le_refl _)⟩
  obtain ⟨⟨p1, q1, rfl, hq1, ht1⟩, rfl, rfl⟩ := ho1.of_ok hx
  have hcov := cov_lex hx
  have hlen := lexL_len hx
  have hfit := lexL_fit (by rw [len_data]; omega) hx
  obtain ⟨n, hn⟩ : ∃ n, ts.length = n := ⟨_, rfl⟩
  rw [len_data] at hlen
  rw [hn] at hq1 ht1 hlen ⊢
  have HN := Lib.hid hn
  have HT := Lib.hid ht1
  have HC := Lib.hid hcov
  have HF := Lib.hid hfit
  clear ho1 hx ht1 hcov hfit hn
  go_wp2_with (go_at_call 13; refine (num_any _ _).mono ?_; rintro e w' ⟨rfl, hw⟩; have hw := hw.symm; subst hw)
  go_loopg [7, 8] (n) (fun gn en i wr => ∃ r e : Nat, gn + r ≤ n ∧ n ≤ gn + r ∧ i = .int .i64 (r : Int) ∧ en = .int .i64 (e : Int) ∧ e ≤ s.size ∧ Hid (Cov (Dc s e) e (ts.drop r)) ∧ Hid (Below w1.heap.size w1 wr))
  case atStart => exact ⟨0, 0, by omega, by omega, rfl, rfl, Nat.zero_le _, HC.out, Below.refl _ _⟩
  case round =>
    obtain ⟨r, e, hg1, hg2, rfl, rfl, hes, HCR, HBR⟩ := hrel
    by_cases hrl : r < n
    · obtain ⟨b5, o5, rfl, hb5, hc5⟩ := HT.out.cell (by omega)
      obtain ⟨t, ht⟩ : ∃ t, ts[r]? = some t := ⟨_, List.getElem?_eq_getElem (by rw [HN.out]; exact hrl)⟩
      have hdr : ts.drop r = t :: ts.drop (r + 1) := by
        have h1 := (List.getElem?_eq_some_iff.1 ht)
        obtain ⟨h2, h3⟩ := h1
        rw [List.drop_eq_getElem_cons h2, h3]
      have hcr := HCR.out
      rw [hdr] at hcr
      obtain ⟨p, tw, k1, rfl, hep, hps, k2, k3⟩ := cov_cons hcr
      obtain ⟨tk, tS, tn, tW⟩ := tw
      obtain ⟨S, hS⟩ : ∃ S, strB tS = S := ⟨_, rfl⟩
      obtain ⟨y0', y1', y2', y3'⟩ := hc5 r _ ht
      have y0 : wr.cell? ⟨b5, o5 + r * 4, none⟩ = some (.int .i64 (tk : Int)) := (HBR.out.cell (p := ⟨b5, o5 + r * 4, none⟩) hb5).trans y0'
      have y1 : wr.cell? ⟨b5, o5 + r * 4 + 1, none⟩ = some (.int .i64 (p : Int)) := (HBR.out.cell (p := ⟨b5, o5 + r * 4 + 1, none⟩) hb5).trans y1'
      have y2 : wr.cell? ⟨b5, o5 + r * 4 + 2, none⟩ = some (.string S) := by rw [← hS]; exact (HBR.out.cell (p := ⟨b5, o5 + r * 4 + 2, none⟩) hb5).trans y2'
      have y3 : wr.cell? ⟨b5, o5 + r * 4 + 3, none⟩ = some (.int .i64 (tn : Int)) := (HBR.out.cell (p := ⟨b5, o5 + r * 4 + 3, none⟩) hb5).trans y3'
      clear y0' y1' y2' y3'
      have s5 : b5 < wr.heap.size := Nat.lt_of_lt_of_le hb5 HBR.out.size
      have T7 : ∀ W, Sem.run Try.prog (Instr.indexAt 23 (.slice (some ⟨b5, o5, none⟩) n q1) (.int .i64 (r : Int))) W = .ok (.pointer (some ⟨b5, o5 + r * 4, none⟩)) W := fun W => by go_simp
      have hpos : 0 < tW ∧ tW ≤ (Dc s p).length := tokL_pos k1
      have hshape : (tS.length = tW ∧ tS = (Dc s p).take tW) ∨ (tS = [] ∧ tW = (rowL digN (Dc s p)).length) := tokL_shape k1
      rw [dc_len] at hpos
      obtain ⟨x, hx⟩ : ∃ x, s.extract e p = x := ⟨_, rfl⟩
      have hxs : x.size ≤ 2000 := by rw [← hx, ByteArray.size_extract]; omega
      rw [hx] at k2
      have T8 : ∀ W, Sem.run Try.prog (Instr.slice 9 (.string s) (some (.int .i64 (e : Int))) (some (.int .i64 (p : Int))) none) W = .ok (.string x) W := fun W => by
        have h := run_slice_string_if (P := Try.prog) W 9 s .i64 .i64 (e : Int) (p : Int) Try.underlying9
        rw [if_pos (by omega), if_pos (by omega), show ((e : Nat) : Int).toNat = e from rfl, show ((p : Nat) : Int).toNat = p from rfl, hx] at h
        exact h
      have hshape2 : (S.size = tW ∧ s.extract p (p + tW) = S) ∨ (S = ⟨#[]⟩ ∧ p + (rowL digN (Dc s p)).length = p + tW) := by
        rcases hshape with ⟨h1, h2⟩ | ⟨h1, h2⟩
        · refine .inl ⟨by rw [← hS, strB_size, h1], ?_⟩
          rw [← hS]
          refine eq_strB ?_
          rw [ext_data, show p + tW - p = tW by omega, h2]
        · exact .inr ⟨by rw [← hS, h1]; rfl, by rw [h2]⟩
      have HK2 := Lib.hid k2
      have HK3 : Hid (Cov (Dc s (p + tW)) (p + tW) (ts.drop (r + 1))) := k3
      have HSH := Lib.hid hshape2
      have HBZ := Lib.hid (HBR.out.alloc HBR.out.size (.cells #[.int .i64 (tk : Int), .int .i64 (p : Int), .string S, .int .i64 (tn : Int)] 38))
      have bz := Box.new wr 38 [.int .i64 (tk : Int), .int .i64 (p : Int), .string S, .int .i64 (tn : Int)]
      simp only [List.toArray] at bz
      have HBX := Lib.hid bz
      clear hc5 ht hdr hcr k2 k3 hshape hshape2 hx bz k1 hS
      obtain ⟨hW0, hWs⟩ := hpos
      have hps2 : p + tW ≤ s.size := by omega
      rcases HSH.out with ⟨hz, hzx⟩ | ⟨rfl, hz⟩
      · go_wp2_with fail
        generalize wr.alloc (.cells #[.int .i64 (tk : Int), .int .i64 (p : Int), .string S, .int .i64 (tn : Int)] 38) = wt at *
        have hbz := HBX.out
        have szt := hbz.lt
        obtain ⟨_, _, _, _, _, _, _, _⟩ := Box.fourb hbz
        clear hbz y0 y1 y2 y3
        have fA : ((tW : Int) == 0) = false := by simp; omega
        have fB : (S.toList == []) = false := toList_ne (by omega)
        have fC : (S.toList != []) = true := by rw [bne, fB]; rfl
        have fD : (S.toList != S.toList) = false := by simp
        have fE : (!(S.toList == [])) = true := by rw [fB]; rfl
        have fF : (S.toList == S.toList) = true := by simp
        have fG : decide ((s.size : Int) < (p : Int) + (tW : Int)) = false := by simp; omega
        have T9 : ∀ W, Sem.run Try.prog (Instr.slice 9 (.string s) (some (.int .i64 (p : Int))) (some (.int .i64 ((p : Int) + (tW : Int)))) none) W = .ok (.string S) W := fun W => by
          have h := run_slice_string_if (P := Try.prog) W 9 s .i64 .i64 (p : Int) ((p : Int) + (tW : Int)) Try.underlying9
          rw [if_pos (by omega), if_pos (by omega), show ((p : Nat) : Int).toNat = p from rfl, show ((p : Int) + (tW : Int)).toNat = p + tW by omega, hzx] at h
          exact h
        clear hzx
        go_loop [10] (fun i => i = .int .i64 (tW : Int)) (fun _ => 0)
        case atStart => rfl
        case round =>
          obtain rfl := hrel
          go_wp2_with fail
          go_quiet (fail)
          go_wp2_with fail
          refine (t_lex x _ (by omega)).mono ?_
          rintro e9 w9 ⟨v9, E9, A9, rfl, ho9, hb9⟩
          obtain ⟨⟨p9, q9, rfl, hq9, ht9⟩, rfl, rfl⟩ := ho9.of_ok HK2.out
          have hb9' : Below wt.heap.size wt w9 := below_of_drewN hb9
          have bx9 := HBX.out.below hb9'
          have szt9 := bx9.lt
          obtain ⟨_, _, _, _, _, _, _, _⟩ := Box.fourb bx9
          have HB9 := Lib.hid (HBZ.out.trans (hb9'.mono HBZ.out.size))
          clear ho9 hb9 ht9 hq9 bx9 hb9'
          go_wp2_with (go_at_call 13; refine (num_any _ _).mono ?_; rintro e w' ⟨rfl, hw⟩; have hw := hw.symm; subst hw)
          go_roundg (n - (r + 1))
          case measure => omega
          case rel => exact ⟨r + 1, p + tW, by omega, by omega, by go_num, by go_num, hps2, HK3.out, HB9.out⟩
      · have HZ := Lib.hid hz
        clear hz
        go_wp2_with fail
        generalize wr.alloc (.cells #[.int .i64 (tk : Int), .int .i64 (p : Int), .string ⟨#[]⟩, .int .i64 (tn : Int)] 38) = wt at *
        have hbz := HBX.out
        have szt := hbz.lt
        obtain ⟨_, _, _, _, _, _, _, _⟩ := Box.fourb hbz
        clear hbz y0 y1 y2 y3
        go_loopg [10] (tW) (fun gn i wx => ∃ q : Nat, gn + q ≤ tW ∧ tW ≤ gn + q ∧ i = .int .i64 (q : Int) ∧ wt = wx)
        case atStart => exact ⟨0, by omega, by omega, rfl, rfl⟩
        case round =>
          obtain ⟨q, hq1, hq2, rfl, rfl⟩ := hrel
          by_cases hqt : q < tW
          · obtain ⟨c, hc⟩ : ∃ c, p + q = c := ⟨_, rfl⟩
            have em : (p : Int) + (q : Int) = (c : Int) := by omega
            have hcs : c < s.size := by omega
            have hdig := row_inc digN s p c (by omega) (by rw [HZ.out]; omega) hcs
            have hd2 : 48 ≤ s[c].toNat ∧ s[c].toNat ≤ 57 := by simpa [digN] using hdig
            have hb8 : s[c].toNat ≤ 255 := byte_le _
            have g1 : decide (48 ≤ (s[c].toNat : Int)) = true := by simp; omega
            have g2 : decide ((s[c].toNat : Int) ≤ 57) = true := by simp; omega
            by_cases hq0 : q = 0
            · have f0 : ((q : Int) == 0) = true := by simp; omega
              clear hq0 hc hdig hd2
              go_wp2_with fail
              go_roundg (tW - (q + 1))
              case measure => omega
              case rel => exact ⟨q + 1, by omega, by omega, by go_num, rfl⟩
            · have f0 : ((q : Int) == 0) = false := by simp; omega
              clear hq0 hc hdig hd2
              go_wp2_with fail
              go_roundg (tW - (q + 1))
              case measure => omega
              case rel => exact ⟨q + 1, by omega, by omega, by go_num, rfl⟩
          · have hqe : tW = q := by omega
            subst hqe
            have f0 : ((tW : Int) == 0) = false := by simp; omega
            have fG : decide ((s.size : Int) < (p : Int) + (tW : Int)) = false := by simp; omega
            by_cases hcs : p + tW < s.size
            · obtain ⟨c, hc⟩ : ∃ c, p + tW = c := ⟨_, rfl⟩
              have em : (p : Int) + (tW : Int) = (c : Int) := by omega
              have fG' : decide ((s.size : Int) < (c : Int)) = false := by rw [← em]; exact fG
              have hcs' : c < s.size := by omega
              have hdig := row_endc digN s p c (by rw [HZ.out]; exact hc) hcs'
              have hb8 : s[c].toNat ≤ 255 := byte_le _
              have hd2 : s[c].toNat < 48 ∨ 57 < s[c].toNat := by simp [digN] at hdig; omega
              have HCC := Lib.hid hc
              clear hc hdig
              by_cases h48 : 48 ≤ s[c].toNat
              · have g1 : decide (48 ≤ (s[c].toNat : Int)) = true := by simp; omega
                have g2 : decide ((s[c].toNat : Int) ≤ 57) = false := by simp; omega
                clear hd2
                go_wp2_with fail
                clear em
                go_quiet (fail)
                go_wp2_with fail
                refine (t_lex x _ (by omega)).mono ?_
                rintro e9 w9 ⟨v9, E9, A9, rfl, ho9, hb9⟩
                obtain ⟨⟨p9, q9, rfl, hq9, ht9⟩, rfl, rfl⟩ := ho9.of_ok HK2.out
                have hb9' : Below wt.heap.size wt w9 := below_of_drewN hb9
                have bx9 := HBX.out.below hb9'
                have szt9 := bx9.lt
                obtain ⟨_, _, _, _, _, _, _, _⟩ := Box.fourb bx9
                have HB9 := Lib.hid (HBZ.out.trans (hb9'.mono HBZ.out.size))
                clear ho9 hb9 ht9 hq9 bx9 hb9'
                go_wp2_with (go_at_call 13; refine (num_any _ _).mono ?_; rintro e w' ⟨rfl, hw⟩; have hw := hw.symm; subst hw)
                go_roundg (n - (r + 1))
                case measure => omega
                case rel => exact ⟨r + 1, p + tW, by omega, by omega, by go_num, by go_num, hps2, HK3.out, HB9.out⟩
              · have g1 : decide (48 ≤ (s[c].toNat : Int)) = false := by simp; omega
                clear hd2
                go_wp2_with fail
                clear em
                go_quiet (fail)
                go_wp2_with fail
                refine (t_lex x _ (by omega)).mono ?_
                rintro e9 w9 ⟨v9, E9, A9, rfl, ho9, hb9⟩
                obtain ⟨⟨p9, q9, rfl, hq9, ht9⟩, rfl, rfl⟩ := ho9.of_ok HK2.out
                have hb9' : Below wt.heap.size wt w9 := below_of_drewN hb9
                have bx9 := HBX.out.below hb9'
                have szt9 := bx9.lt
                obtain ⟨_, _, _, _, _, _, _, _⟩ := Box.fourb bx9
                have HB9 := Lib.hid (HBZ.out.trans (hb9'.mono HBZ.out.size))
                clear ho9 hb9 ht9 hq9 bx9 hb9'
                go_wp2_with (go_at_call 13; refine (num_any _ _).mono ?_; rintro e w' ⟨rfl, hw⟩; have hw := hw.symm; subst hw)
                go_roundg (n - (r + 1))
                case measure => omega
                case rel => exact ⟨r + 1, p + tW, by omega, by omega, by go_num, by go_num, hps2, HK3.out, HB9.out⟩
            · go_wp2_with fail
              go_quiet (fail)
              go_wp2_with fail
              refine (t_lex x _ (by omega)).mono ?_
              rintro e9 w9 ⟨v9, E9, A9, rfl, ho9, hb9⟩
              obtain ⟨⟨p9, q9, rfl, hq9, ht9⟩, rfl, rfl⟩ := ho9.of_ok HK2.out
              have hb9' : Below wt.heap.size wt w9 := below_of_drewN hb9
              have bx9 := HBX.out.below hb9'
              have szt9 := bx9.lt
              obtain ⟨_, _, _, _, _, _, _, _⟩ := Box.fourb bx9
              have HB9 := Lib.hid (HBZ.out.trans (hb9'.mono HBZ.out.size))
              clear ho9 hb9 ht9 hq9 bx9 hb9'
              go_wp2_with (go_at_call 13; refine (num_any _ _).mono ?_; rintro e w' ⟨rfl, hw⟩; have hw := hw.symm; subst hw)
              go_roundg (n - (r + 1))
              case measure => omega
              case rel => exact ⟨r + 1, p + tW, by omega, by omega, by go_num, by go_num, hps2, HK3.out, HB9.out⟩
    · obtain rfl : r = n := by omega
      have hfin : Cov (Dc s e) e [] := by have := HCR.out; rwa [List.drop_of_length_le (by rw [HN.out]; exact Nat.le_refl _)] at this
      have hfin2 : lexL (s.extract e s.size).data.toList 0 = .ok [] := by rw [ext_from]; exact hfin
      obtain ⟨x, hx⟩ : ∃ x, s.extract e s.size = x := ⟨_, rfl⟩
      have hxs : x.size ≤ 2000 := by rw [← hx, ByteArray.size_extract]; omega
      rw [hx] at hfin2
      have T : ∀ W, Sem.run Try.prog (Instr.slice 9 (.string s) (some (.int .i64 (e : Int))) none none) W = .ok (.string x) W := fun W => by
        have h := run_slice_string_from_if (P := Try.prog) W 9 s .i64 (e : Int) Try.underlying9
        rw [if_pos (by omega), show ((e : Nat) : Int).toNat = e from rfl, hx] at h
        exact h
      have HFI := Lib.hid hfin2
      clear hfin hfin2 hx
      go_wp2_with fail
      refine (t_lex x wr (by omega)).mono ?_
      rintro e9 w9 ⟨v9, E9, A9, rfl, ho9, hb9⟩
      obtain ⟨⟨p9, q9, rfl, hq9, ht9⟩, rfl, rfl⟩ := ho9.of_ok HFI.out
      have HB9 := Lib.hid (HB1.out.trans ((HBR.out.trans (hb9.mono HBR.out.size)).mono HB1.out.size))
      clear ho9 hb9 ht9 hq9
      go_wp2_with (first | (go_at_call 13; refine (num_any _ _).mono ?_; rintro e w' ⟨rfl, hw⟩; have hw := hw.symm; subst hw) | (go_at_call 9; refine (awake9 _).mono ?_; rintro e w' ⟨rfl, hb⟩))
      go_ret
      exact ⟨rfl, below_nxt HB9.out hb (Nat.le_refl _)⟩

end Go.Proofs.Ytdhkcbkeehameaa
